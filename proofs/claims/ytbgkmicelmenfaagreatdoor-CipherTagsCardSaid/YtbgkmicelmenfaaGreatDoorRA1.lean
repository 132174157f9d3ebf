/- Own lemmas of the verifier on memory, numbers and the functions that the laws call; no statement is proved here. -/
import Derived.Test.YtbgkmicelmenfaaGreatDoorRG
import Derived.Test.YtbgkmicelmenfaaGreatDoorProg
import Derived.Deep.QuietTactic
import Derived.BigQuiet
import Derived.Laws.BitsAllLaws
import Derived.WalkMore
import Derived.ScopeJumps
import Derived.Deep.WholeRow
import Derived.ChangeKeysEq
import Derived.StillTailTactics
import Derived.Deep.RegionWith
import Derived.Deep.MidRow
import Derived.Laws.Cover3
import Derived.Lib.AppendZeros
namespace Go.Proofs.YtbgkmicelmenfaaGreatDoor.A
open Go.RowKit
set_option maxRecDepth 100000
def nb (bs:List UInt8) (k:Nat):Nat:=(bs.getD k 0).toNat
theorem byteAt_nb (bs:List UInt8) (k:Nat):byteAt bs k=(nb bs k:Nat):=rfl
theorem nb_lt (bs:List UInt8) (k:Nat):nb bs k < 256:=(bs.getD k 0).toNat_lt
theorem getD_eq {α:Type} (l:List α) (i:Nat) (d:α) (h:i < l.length):l.getD i d=l[i]:=by simp [List.getD,List.getElem?_eq_getElem h]
theorem u8_nat (x:Nat) (h:x < 256):((UInt8.ofNat x).toNat:Int)=x:=by
 rw [UInt8.toNat_ofNat'];omega
theorem pigeon:∀ (n:Nat) (f:Nat→Nat),(∀ i,i < n→f i < n)→(∀ i j,i < n→j < n→f i=f j→i=j)→∀ y,y < n→∃ x,x < n∧f x=y
 | 0,_,_,_,y,hy=>absurd hy (by omega)
 | n+1,f,hf,hi,y,hy=>by
   by_cases hny:f n=y
   ·exact ⟨n,by omega,hny⟩
   ·have ih:=pigeon n (fun i=>if f i=n then f n else f i) (by
     intro i hin
     have h1:=hf i (by omega)
     have h2:=hf n (by omega)
     have h3:f i=f n→i=n:=hi i n (by omega) (by omega)
     show (if f i=n then f n else f i) < n
     split
     ·rename_i h4
      have:f n ≠ n:=fun h5=>by have:=h3 (by omega);omega
      omega
     ·omega) (by
     intro i j hin hjn he
     have h1:=hi i j (by omega) (by omega)
     have h2:f i=f n→i=n:=hi i n (by omega) (by omega)
     have h3:f j=f n→j=n:=hi j n (by omega) (by omega)
     split at he<;>split at he
     ·exact h1 (by omega)
     ·have:=h3 (by omega);omega
     ·have:=h2 (by omega);omega
     ·exact h1 he)
    by_cases hy2:y=n
    ·subst hy2
     obtain ⟨x,hx,he⟩:∃ x,x < y∧f x=y:=by
      have h2:=hf y (by omega)
      obtain ⟨x,hx,he⟩:=ih (f y) (by omega)
      refine ⟨x,hx,?_⟩
      split at he
      ·assumption
      ·have:=hi x y (by omega) (by omega) he;omega
     exact ⟨x,by omega,he⟩
    ·obtain ⟨x,hx,he⟩:=ih y (by omega)
     split at he
     ·exact absurd he hny
     ·exact ⟨x,by omega,he⟩
structure IsT (n:Nat) (bs:List UInt8):Prop where
 len:bs.length=n
 lt:∀ i,i < n→nb bs i < n
 inj:∀ i j,i < n→j < n→nb bs i=nb bs j→i=j
theorem IsT.onto {n:Nat} {bs:List UInt8} (h:IsT n bs):∀ y,y < n→∃ x,x < n∧nb bs x=y:=pigeon n (nb bs) h.lt h.inj
theorem IsT.small {n:Nat} {bs:List UInt8} (h:IsT n bs):n≤256:=by
 rcases Nat.lt_or_ge 256 n with h1 | h1
 ·obtain ⟨x,_,he⟩:=h.onto 256 h1
  have:=nb_lt bs x
  omega
 ·exact h1
theorem isT_onto {n:Nat} {bs:List UInt8} (hl:bs.length=n) (h:∀ y,y < n→∃ x,x < n∧nb bs x=y):IsT n bs:=by
 have hg:∃ g:Nat→Nat,∀ y,y < n→g y < n∧nb bs (g y)=y:=by
  refine ⟨fun y=>if hy:y < n then (h y hy).choose else 0,fun y hy=>?_⟩
  simp only [dif_pos hy]
  exact (h y hy).choose_spec
 obtain ⟨g,hg⟩:=hg
 have hs:=pigeon n g (fun y hy=>(hg y hy).1) (fun i j hi hj he=>by rw [← (hg i hi).2,← (hg j hj).2,he])
 refine ⟨hl,fun i hi=>?_,fun i j hi hj he=>?_⟩
 ·obtain ⟨y,hy,rfl⟩:=hs i hi
  rw [(hg y hy).2];exact hy
 ·obtain ⟨y,hy,rfl⟩:=hs i hi
  obtain ⟨z,hz,rfl⟩:=hs j hj
  rw [(hg y hy).2,(hg z hz).2] at he
  rw [he]
open Classical in
noncomputable def isB (bs:List UInt8):Bool:=decide (IsT bs.length bs)
theorem isB_true {bs:List UInt8}:isB bs=true↔IsT bs.length bs:=by simp [isB]
theorem isB_of {n:Nat} {bs:List UInt8} (h:IsT n bs):isB bs=true:=isB_true.2 (by rw [h.len];exact h)
theorem isB_false {bs:List UInt8} (h:¬ IsT bs.length bs):isB bs=false:=by simp [isB,h]
def setG (f:Nat→Nat):Nat→List Bool
 | 0=>List.replicate 256 false
 | k+1=>(setG f k).set (f k) true
theorem setG_length (f:Nat→Nat):∀ k,(setG f k).length=256
 | 0=>by rw [setG,List.length_replicate]
 | k+1=>by rw [setG,List.length_set,setG_length f k]
theorem setG_at (f:Nat→Nat):∀ k j,j < 256→((setG f k).getD j false=true↔∃ x,x < k∧f x=j)
 | 0,j,hj=>by
   rw [setG,List.getD,List.getElem?_replicate,if_pos hj]
   constructor
   ·intro h;cases h
   ·rintro ⟨x,hx,_⟩;omega
 | k+1,j,hj=>by
   rw [setG]
   have hl:=setG_length f k
   have ih:=setG_at f k j hj
   simp only [List.getD,List.getElem?_set] at ih ⊢
   split
   ·rename_i h
    subst h
    rw [if_pos (by rw [hl];exact hj)]
    exact ⟨fun _=>⟨k,by omega,rfl⟩,fun _=>rfl⟩
   ·rename_i h
    rw [ih]
    constructor
    ·rintro ⟨x,hx,he⟩;exact ⟨x,by omega,he⟩
    ·rintro ⟨x,hx,he⟩
     refine ⟨x,?_,he⟩
     rcases Nat.lt_or_ge x k with h1 | h1
     ·exact h1
     ·rw [show x=k by omega] at he;exact absurd he h
theorem setG_eq {bs:List UInt8} {n:Nat} (hl:bs.length=n) (hn:n≤256):(setG (nb bs) n == setG (fun i=>i) n)=isB bs:=by
 have h1:=setG_at (nb bs) n
 have h2:=setG_at (fun i=>i) n
 have key:setG (nb bs) n=setG (fun i=>i) n↔IsT bs.length bs:=by
  constructor
  ·intro he
   rw [hl]
   refine isT_onto hl fun y hy=>?_
   have:=(h2 y (by omega)).2 ⟨y,hy,rfl⟩
   rw [← he] at this
   exact (h1 y (by omega)).1 this
  ·intro hT
   rw [hl] at hT
   apply List.ext_getElem (by rw [setG_length,setG_length])
   intro j hj1 hj2
   have hj:j < 256:=by rw [setG_length] at hj1;exact hj1
   have e1:=h1 j hj
   have e2:=h2 j hj
   rw [getD_eq _ _ _ hj1] at e1
   rw [getD_eq _ _ _ hj2] at e2
   rw [Bool.eq_iff_iff,e1,e2]
   constructor
   ·rintro ⟨x,hx,rfl⟩;exact ⟨_,hT.lt x hx,rfl⟩
   ·rintro ⟨x,hx,rfl⟩;exact hT.onto x hx
 rw [Bool.eq_iff_iff,isB_true,beq_iff_eq,key]
def backG (bs:List UInt8) (n:Nat):Nat→List UInt8
 | 0=>List.replicate n 0
 | k+1=>(backG bs n k).set (nb bs k) (UInt8.ofNat k)
theorem backG_length (bs:List UInt8) (n:Nat):∀ k,(backG bs n k).length=n
 | 0=>by simp [backG]
 | k+1=>by rw [backG,List.length_set,backG_length bs n k]
def backL (bs:List UInt8):List UInt8:=backG bs bs.length bs.length
def tabF (f:Nat→Nat) (n:Nat):List UInt8:=(List.range n).map fun i=>UInt8.ofNat (f i)
end Go.Proofs.YtbgkmicelmenfaaGreatDoor.A
namespace Go.Proofs.YtbgkmicelmenfaaGreatDoor.A
open Go.RowKit
set_option maxRecDepth 100000
theorem Tryz.info5:(Tryz.prog.info? 5).map (fun i=>(i.zero,i.size,i.bytes))=some (some (.int .u8 0),1,1):=by kernel_rfl
theorem ret_int {k:IntKind} {a b:Int} (h:a=b):Ending.returned (.int k a)=.returned (.int k b):=by rw [h]
theorem tmod_neg (a n:Int) (hn:0 < n) (h:a.tmod n < 0):a.tmod n+n=a % n:=by
 have h:=@Int.tmod_eq_emod a n
 have h1:=Int.emod_nonneg a (Int.ne_of_gt hn)
 have h2:=Int.emod_lt_of_pos a hn
 split at h<;>omega
theorem tmod_pos (a n:Int) (hn:0 < n) (h:¬ a.tmod n < 0):a.tmod n=a % n:=by
 have h:=@Int.tmod_eq_emod a n
 have h1:=Int.emod_nonneg a (Int.ne_of_gt hn)
 have h2:=Int.emod_lt_of_pos a hn
 split at h<;>omega
theorem tmod_lo (a n:Int) (hn:0 < n) : - n < a.tmod n:=by
 have h:=@Int.tmod_eq_emod a n
 have h1:=Int.emod_nonneg a (Int.ne_of_gt hn)
 have h2:=Int.emod_lt_of_pos a hn
 split at h<;>omega
theorem tmod_add_emod (a n:Int) (hn:0 < n):(a.tmod n+n) % n=a % n:=by
 have h:=@Int.tmod_eq_emod a n
 rw [Int.add_emod_right]
 split at h
 ·rw [h];simp
 ·rw [h,Int.sub_emod];
  have:(n.natAbs:Int) % n=0:=by rw [Int.natAbs_of_nonneg (by omega)];simp
  rw [this];simp
set_option maxHeartbeats 400000 in
theorem rest_any (a n:Int) (w:World) (h0:0 < n) (h1:n≤9223372036854775807) :
  Calls Tryz.prog 162 #[.int .i64 a,.int .i64 n] w fun e w'=>e=.returned (.int .i64 (a % n))∧w=w':=by
 have b1:=Int.tmod_lt_of_pos a h0
 by_cases hc:a.tmod n < 0
 ·have hf:=tmod_neg a n h0 hc
  have b2:=Int.emod_nonneg a (Int.ne_of_gt h0)
  have b3:0≤a.tmod n+n:=by omega
  have HF:=hid hf;clear hf b2
  go_enter Tryz.func162,Tryz.ntmps162
  go_wp2
  go_ret
  exact ⟨ret_int HF.out,rfl⟩
 ·have hf:=tmod_pos a n h0 hc
  have HF:=hid hf;clear hf
  go_enter Tryz.func162,Tryz.ntmps162
  go_wp2
  go_ret
  exact ⟨ret_int HF.out,rfl⟩
set_option maxHeartbeats 400000 in
theorem rrest_any (a n:Int) (w:World) (h0:0 < n) (h1:n≤4611686018427387903) :
  Calls Tryz.prog 178 #[.int .i64 a,.int .i64 n] w fun e w'=>e=.returned (.int .i64 (a % n))∧w=w':=by
 have b1:=Int.tmod_lt_of_pos a h0
 have b2:=tmod_lo a n h0
 have hf:=tmod_add_emod a n h0
 have HF:=hid hf;clear hf
 go_enter Tryz.func178,Tryz.ntmps178
 go_wp2
 go_ret
 exact ⟨ret_int HF.out,rfl⟩
theorem and7i (t:Int):bits .and .i64 t 7=t % 8:=by
 have e0:bits .and .i64 t 7=IntKind.i64.wrap ((BitVec.ofInt 64 t &&& BitVec.ofInt 64 7).toNat:Int):=rfl
 have e:(BitVec.ofInt 64 t &&& BitVec.ofInt 64 7).toNat=(t % 8).toNat:=by
  rw [BitVec.toNat_and,BitVec.toNat_ofInt,BitVec.toNat_ofInt]
  have:(7 % ((2 ^ 64:Nat):Int)).toNat=7:=rfl
  rw [this,nat_mask3]
  omega
 rw [e0,e]
 simp [IntKind.wrap,IntKind.bits,IntKind.signed]
 omega
theorem bits_u8_range (op:BinOp) (a b:Int):0≤bits op .u8 a b∧bits op .u8 a b < 256:=by
 unfold bits
 simp [IntKind.wrap,IntKind.bits,IntKind.signed]
 omega
theorem turn_k (t:Int) (n:Nat) (hn:0 < n):t % (8*n)=8*(t / 8 % n)+t % 8:=by
 have h1:t=8*n*(t / 8 / n)+(8*(t / 8 % n)+t % 8):=by
  have a:=Int.mul_ediv_add_emod (t / 8) n
  have b:=Int.mul_ediv_add_emod t 8
  have c:8*(n:Int)*(t / 8 / n)=8*(n*(t / 8 / n)):=by rw [Int.mul_assoc]
  rw [c];omega
 have h2:=Int.emod_nonneg (t / 8) (show (n:Int) ≠ 0 by omega)
 have h3:=Int.emod_lt_of_pos (t / 8) (show (0:Int) < n by omega)
 have h4:(8*(t / 8 % n)+t % 8) < 8*n:=by omega
 conv=>lhs;rw [h1]
 rw [Int.add_comm,Int.add_mul_emod_self_left,Int.emod_eq_of_lt (by omega) h4]
def turnF (bs:List UInt8) (n f s i:Nat):UInt8 :=
 u8 (bits .or .u8 (byteAt bs ((f+i) % n)*2 ^ s % 256) (byteAt bs ((f+i+1) % n) / 2 ^ (8 - s)))
def turnL (bs:List UInt8) (n f s:Nat):List UInt8:=(List.range n).map (turnF bs n f s)
theorem turnF_val (bs:List UInt8) (n f s i:Nat):((turnF bs n f s i).toNat:Int)=bits .or .u8 (byteAt bs ((f+i) % n)*2 ^ s % 256) (byteAt bs ((f+i+1) % n) / 2 ^ (8 - s)):=by
 unfold turnF
 rw [u8_toNat]
 have:=bits_u8_range .or (byteAt bs ((f+i) % n)*2 ^ s % 256) (byteAt bs ((f+i+1) % n) / 2 ^ (8 - s))
 omega
theorem next_mod (a n:Nat) (_hn:0 < n):(a+1) % n=if a % n+1=n then 0 else a % n+1:=by
 rw [Nat.add_mod]
 rcases Nat.eq_or_lt_of_le (show 1≤n by omega) with h1 | h1
 ·subst h1;simp [Nat.mod_one]
 ·have h2:a % n < n:=Nat.mod_lt _ (by omega)
  rw [Nat.mod_eq_of_lt h1]
  split
  ·next h=>rw [h];exact Nat.mod_self n
  ·exact Nat.mod_eq_of_lt (by omega)
def tf (t:Int) (n:Nat):Nat:=(t / 8 % n).toNat
def ts (t:Int):Nat:=(t % 8).toNat
set_option maxHeartbeats 1000000 in
theorem turn_any (A:Option Addr) (n c:Nat) (t:Int) (bs:List UInt8) (w:World) (h:Rd w w.heap.size A n bs) (hn:n≤140737488355328) (h0:0 < n) :
  Calls Tryz.prog 98 #[.slice A n c,.int .i64 t] w (RetB w (turnL bs n (tf t n) (ts t))):=by
 have hz:((n:Int) == 0)=false:=by simp;omega
 have ht:=and7i t
 obtain ⟨f,hf⟩:∃ f:Nat,t / 8 % n=f:=⟨(t / 8 % n).toNat,by have:=Int.emod_nonneg (t / 8) (show (n:Int) ≠ 0 by omega);omega⟩
 obtain ⟨s,hs⟩:∃ s:Nat,t % 8=s:=⟨(t % 8).toNat,by omega⟩
 have hs7:s≤7:=by omega
 have hfn:f < n:=by have:=Int.emod_lt_of_pos (t / 8) (show (0:Int) < n by omega);omega
 have HT:=hid (show tf t n=f∧ts t=s by unfold tf ts;omega)
 rw [hs] at ht
 have HF:=hid hf
 clear hs hf
 go_enter Tryz.func98,Tryz.ntmps98
 go_wp2_with (first
  | (go_at_call 162;refine (rest_any _ _ _ (by omega) (by omega)).mono ?_;rintro e w' ⟨rfl,rfl⟩;rw [HF.out])
  | (at_make;refine wpL_make rfl (.tmp 21) (.tmp 21) 22 rfl Tryz.underlying22 Tryz.info5 .i64 n n rfl rfl rfl (by omega) w.heap.size (Nat.le_refl _) ?_;intro w1 hown1 hb1 _))
 go_loopw [5,25] (fun x i wr=>∃ k fr:Nat,k≤n∧fr < n∧i=.int .i64 k∧x=.int .i64 fr∧fr=(f+k) % n∧Own wr w.heap.size (.slice (some ⟨w.heap.size,0,none⟩) n n) (fillTo (turnF bs n f s) n k)∧Below w.heap.size w wr) (fun _ i _=>n - (intOf i).toNat)
 case atStart=>exact ⟨0,f,Nat.zero_le _,hfn,rfl,rfl,by rw [Nat.add_zero,Nat.mod_eq_of_lt hfn],by rw [fillTo_zero];exact hown1,hb1⟩
 case round =>
  obtain ⟨k,fr,hk,hfr,rfl,rfl,hfk,hown,hb⟩:=hrel
  have HK:=hid hfk
  clear hfk
  by_cases hlt:k < n
  ·obtain ⟨b1,o1,rfl,hb1',hc1⟩:=(h.below hb (Nat.le_refl _)).at_ (by omega)
   have hck1:=hc1 fr hfr
   obtain ⟨nx,hnx⟩:∃ nx,nx=if fr+1=n then 0 else fr+1:=⟨_,rfl⟩
   have hnk:nx=(f+k+1) % n:=by rw [next_mod _ _ h0,← HK.out];exact hnx
   have hnl:nx < n:=by rw [hnk];exact Nat.mod_lt _ h0
   have hck2:=hc1 nx hnl
   have r1:=byteAt_lo bs fr;have r2:=byteAt_hi bs fr;have r3:=byteAt_lo bs nx;have r4:=byteAt_hi bs nx
   obtain ⟨cur,hcur⟩:∃ cur,fillTo (turnF bs n f s) n k=cur:=⟨_,rfl⟩
   have hcl:cur.length=n:=by rw [← hcur];exact fillTo_length _ _ _
   rw [hcur] at hown
   have hown0:Own wr w.heap.size (.slice (some ⟨w.heap.size,0,none⟩) cur.length n) cur:=by rw [hcl];exact hown
   have hcell:=hown0.cell k (by omega)
   have hfree:=hown0.free k
   have hset:=hown0.set_ k (turnF bs n f s k)
   rw [← hcur,fillTo_set _ _ _ _ rfl,fillTo_length] at hset
   rw [turnF_val,← HK.out,← hnk] at hset
   have HH:=hid hset
   have HB:=hid hb
   have HN:=hid hnk
   clear hset hown0 hown hb hcl hcur hown1 hb1 h hc1 hnk
   by_cases hw:fr+1=n
   ·rw [if_pos hw] at hnx
    have g1:n≤fr+1:=by omega
    have g2:((fr:Int)+1 == (n:Int))=true:=by simp;omega
    subst hnx
    rw [Nat.add_zero] at hck2
    clear hw
    go_wp2
    go_region
    go_wp2
    go_roundw
    case rel=>exact ⟨k+1,0,by omega,by omega,by go_num,rfl,HN.out,HH.out,(HB.out.setCell (by simp) _).drew⟩
    case measure=>simp [intOf];omega
   ·rw [if_neg hw] at hnx
    have g2:((fr:Int)+1 == (n:Int))=false:=by simp;omega
    have g3:fr+1 < n:=by omega
    subst hnx
    clear hw
    go_wp2
    go_region
    go_wp2
    go_roundw
    case rel=>exact ⟨k+1,fr+1,by omega,by omega,by go_num,by go_num,HN.out,HH.out,(HB.out.setCell (by simp) _).drew⟩
    case measure=>simp [intOf];omega
  ·obtain rfl:k=n:=by omega
   have HH:=hid (And.intro hown hb)
   clear hown hb hown1 hb1
   go_wp2
   go_ret
   exact ⟨_,rfl,by have:=HH.out.1;rw [fillTo_full] at this;rw [HT.out.1,HT.out.2];exact this,HH.out.2⟩
set_option maxHeartbeats 400000 in
theorem turn_nil (A:Option Addr) (c:Nat) (t:Int) (w:World) :
  Calls Tryz.prog 98 #[.slice A 0 c,.int .i64 t] w fun e w'=>e=.returned (.slice none 0 0)∧w=w':=by
 go_enter Tryz.func98,Tryz.ntmps98
 go_wp2
 go_ret
 exact ⟨rfl,rfl⟩
set_option maxHeartbeats 400000 in
theorem rturn_nil (A:Option Addr) (c:Nat) (t:Int) (w:World) :
  Calls Tryz.prog 130 #[.slice A 0 c,.int .i64 t] w (RetB w []):=by
 go_enter Tryz.func130,Tryz.ntmps130
 go_wp2_with (at_make;refine wpL_make rfl (.tmp 11) (.tmp 11) 22 rfl Tryz.underlying22 Tryz.info5 .i64 0 0 rfl rfl rfl (by omega) w.heap.size (Nat.le_refl _) ?_;intro w1 hown1 hb1 _)
 go_ret
 exact ⟨_,rfl,hown1,hb1⟩
theorem own_set_drewN {w:World} {base:Nat} {v u:Value} {p:Addr} {bs:List UInt8} (h:Own (w.setCell p u) base v bs) (n:Nat):Own ((w.drewN n).setCell p u) base v bs:=h
theorem below_drewN' {B:Nat} {a w:World} (h:Below B a w) (n:Nat):Below B a (w.drewN n):=⟨h.os,h.tape,h.output,h.size,h.block⟩
set_option maxHeartbeats 1000000 in
theorem rturn_any (A:Option Addr) (n c:Nat) (t:Int) (bs:List UInt8) (w:World) (h:Rd w w.heap.size A n bs) (hn:n≤140737488355328) (h0:0 < n) :
  Calls Tryz.prog 130 #[.slice A n c,.int .i64 t] w (RetB w (turnL bs n (tf t n) (ts t))):=by
 have hz:((n:Int) == 0)=false:=by simp;omega
 obtain ⟨f,hf⟩:∃ f:Nat,t / 8 % n=f:=⟨(t / 8 % n).toNat,by have:=Int.emod_nonneg (t / 8) (show (n:Int) ≠ 0 by omega);omega⟩
 obtain ⟨s,hs⟩:∃ s:Nat,t % 8=s:=⟨(t % 8).toNat,by omega⟩
 have hs7:s≤7:=by omega
 have hfn:f < n:=by have:=Int.emod_lt_of_pos (t / 8) (show (0:Int) < n by omega);omega
 have HT:=hid (show tf t n=f∧ts t=s by unfold tf ts;omega)
 have hK:t % (8*(n:Int))=((8*f+s:Nat):Int):=by rw [turn_k t n h0,hf,hs];omega
 have HF:=hid hK
 obtain ⟨K,hKK⟩:∃ K,K=8*f+s:=⟨_,rfl⟩
 rw [← hKK] at HF
 have HD:=hid (show (K:Int) / 8=f∧(K:Int) % 8=s by omega)
 have hKb:K < 8*n:=by omega
 clear hs hf hK hKK
 go_enter Tryz.func130,Tryz.ntmps130
 go_wp2_with (first
  | (go_at_call 178;refine (rrest_any _ _ _ (by omega) (by omega)).mono ?_;rintro e w' ⟨rfl,rfl⟩;rw [HF.out])
  | (at_make;refine wpL_make rfl (.tmp 11) (.tmp 11) 22 rfl Tryz.underlying22 Tryz.info5 .i64 n n rfl rfl rfl (by omega) w.heap.size (Nat.le_refl _) ?_;intro w1 hown1 hb1 _))
 go_loopw [7] (fun i wr=>∃ k:Nat,k≤n∧i=.int .i64 k∧Own wr w.heap.size (.slice (some ⟨w.heap.size,0,none⟩) n n) (fillTo (turnF bs n f s) n k)∧Below w.heap.size w wr) (fun i _=>n - (intOf i).toNat)
 case atStart=>exact ⟨0,Nat.zero_le _,rfl,by rw [fillTo_zero];exact hown1,hb1⟩
 case round =>
  obtain ⟨k,hk,rfl,hown,hb⟩:=hrel
  by_cases hlt:k < n
  ·obtain ⟨b1,o1,rfl,hb1',hc1⟩:=(h.below hb (Nat.le_refl _)).at_ (by omega)
   have hl1:(f+k) % n < n:=Nat.mod_lt _ h0
   have hl2:(f+k+1) % n < n:=Nat.mod_lt _ h0
   have hck1:=hc1 _ hl1
   have hck2:=hc1 _ hl2
   have r1:=byteAt_lo bs ((f+k) % n);have r2:=byteAt_hi bs ((f+k) % n);have r3:=byteAt_lo bs ((f+k+1) % n);have r4:=byteAt_hi bs ((f+k+1) % n)
   obtain ⟨cur,hcur⟩:∃ cur,fillTo (turnF bs n f s) n k=cur:=⟨_,rfl⟩
   have hcl:cur.length=n:=by rw [← hcur];exact fillTo_length _ _ _
   rw [hcur] at hown
   have hown0:Own wr w.heap.size (.slice (some ⟨w.heap.size,0,none⟩) cur.length n) cur:=by rw [hcl];exact hown
   have hcell:=hown0.cell k (by omega)
   have hfree:=hown0.free k
   have hset:=hown0.set_ k (turnF bs n f s k)
   rw [← hcur,fillTo_set _ _ _ _ rfl,fillTo_length] at hset
   rw [turnF_val,Nat.add_comm f k] at hset
   have HH:=hid hset
   have HB:=hid hb
   clear hset hown0 hown hb hcl hcur hown1 hb1 h hc1
   have hD1:=HD.out.1
   have hD2:=HD.out.2
   rw [Nat.add_comm f k] at hck1 hck2
   have q1:(0:Int)≤((k:Int)+f) % n:=Int.emod_nonneg _ (by omega)
   have q2:((k:Int)+f) % n < n:=Int.emod_lt_of_pos _ (by omega)
   have q3:(0:Int)≤((k:Int)+f+1) % n:=Int.emod_nonneg _ (by omega)
   have q4:((k:Int)+f+1) % n < n:=Int.emod_lt_of_pos _ (by omega)
   go_wp2
   go_quiet (fail)
   go_wp2
   go_roundw
   case rel=>exact ⟨k+1,by omega,by go_num,own_set_drewN HH.out nq,(below_drewN' HB.out nq).setCell (by simp) _⟩
   case measure=>simp [intOf];omega
  ·obtain rfl:k=n:=by omega
   have HH:=hid (And.intro hown hb)
   clear hown hb hown1 hb1
   go_wp2
   go_ret
   exact ⟨_,rfl,by have:=HH.out.1;rw [fillTo_full] at this;rw [HT.out.1,HT.out.2];exact this,HH.out.2⟩
theorem turn_all (A:Option Addr) (n c:Nat) (t:Int) (bs:List UInt8) (w:World) (h:Rd w w.heap.size A n bs) (hn:n≤140737488355328) :
  Calls Tryz.prog 98 #[.slice A n c,.int .i64 t] w (RetB w (turnL bs n (tf t n) (ts t))):=by
 rcases Nat.eq_zero_or_pos n with rfl | hp
 ·refine (turn_nil A c t w).mono ?_
  rintro e w' ⟨rfl,rfl⟩
  exact ⟨_,rfl,World.ownsRow_nil _ _ _ _,Below.refl _ _⟩
 ·exact turn_any A n c t bs w h hn hp
theorem rturn_all (A:Option Addr) (n c:Nat) (t:Int) (bs:List UInt8) (w:World) (h:Rd w w.heap.size A n bs) (hn:n≤140737488355328) :
  Calls Tryz.prog 130 #[.slice A n c,.int .i64 t] w (RetB w (turnL bs n (tf t n) (ts t))):=by
 rcases Nat.eq_zero_or_pos n with rfl | hp
 ·exact rturn_nil A c t w
 ·exact rturn_any A n c t bs w h hn hp
theorem turnL_length (bs:List UInt8) (n f s:Nat):(turnL bs n f s).length=n:=by simp [turnL]
end Go.Proofs.YtbgkmicelmenfaaGreatDoor.A
namespace Go.Proofs.YtbgkmicelmenfaaGreatDoor.A
def xt (m x:Nat):Nat:=if 256≤2*x then (2*x) ^^^ m else 2*x
def xtk (m:Nat):Nat→Nat→Nat
 | 0,x=>x
 | k+1,x=>xt m (xtk m k x)
def gmk (m a b:Nat):Nat→Nat
 | 0=>0
 | k+1=>if b / 2 ^ k % 2=1 then gmk m a b k ^^^ xtk m k a else gmk m a b k
def gm (m a b:Nat):Nat:=gmk m a b 8
structure IsRest (m:Nat):Prop where
 lo:256≤m
 hi:m < 512
theorem xor_lt8 {x y:Nat} (hx:x < 256) (hy:y < 256):x ^^^ y < 256:=Nat.xor_lt_two_pow (n:=8) hx hy
theorem xor_div (x y k:Nat):(x ^^^ y) / 2 ^ k=(x / 2 ^ k) ^^^ (y / 2 ^ k):=by
 rw [← Nat.shiftRight_eq_div_pow,← Nat.shiftRight_eq_div_pow,← Nat.shiftRight_eq_div_pow,Nat.shiftRight_xor_distrib]
theorem xor_dbl (x y:Nat):2*(x ^^^ y)=(2*x) ^^^ (2*y):=by
 have h:=Nat.shiftLeft_xor_distrib (a:=x) (b:=y) (i:=1)
 simp only [Nat.shiftLeft_eq,Nat.pow_one] at h
 rw [Nat.mul_comm 2,Nat.mul_comm 2,Nat.mul_comm 2]
 exact h
theorem xor_top {x y:Nat} (hx:256≤x) (hx':x < 512) (hy:256≤y) (hy':y < 512):x ^^^ y < 256:=by
 have h:=xor_div x y 8
 rw [show x / 2 ^ 8=1 by omega,show y / 2 ^ 8=1 by omega,Nat.xor_self] at h
 omega
theorem xor_lo {x y:Nat} (hx:x < 256) (hy:256≤y) (hy':y < 512):256≤x ^^^ y:=by
 have h:=xor_div x y 8
 rw [show x / 2 ^ 8=0 by omega,show y / 2 ^ 8=1 by omega,Nat.zero_xor] at h
 omega
theorem xt_lt {m x:Nat} (hm:IsRest m) (hx:x < 256):xt m x < 256:=by
 unfold xt
 split
 ·exact xor_top (by omega) (by omega) hm.lo hm.hi
 ·omega
theorem xt_zero (m:Nat):xt m 0=0:=by simp [xt]
theorem xor_shuffle (a b c d:Nat):(a ^^^ b) ^^^ (c ^^^ d)=(a ^^^ c) ^^^ (b ^^^ d):=by
 ac_rfl
theorem xt_xor {m x y:Nat} (hx:x < 256) (hy:y < 256):xt m (x ^^^ y)=xt m x ^^^ xt m y:=by
 unfold xt
 rw [xor_dbl]
 by_cases h1:256≤2*x
 ·by_cases h2:256≤2*y
  ·have:=xor_top h1 (by omega) h2 (by omega)
   rw [if_pos h1,if_pos h2,if_neg (by omega),xor_shuffle,Nat.xor_self,Nat.xor_zero]
  ·have:=xor_lo (x:=2*y) (by omega) h1 (by omega)
   rw [Nat.xor_comm] at this
   rw [if_pos h1,if_neg h2,if_pos this]
   ac_rfl
 ·by_cases h2:256≤2*y
  ·have:=xor_lo (x:=2*x) (by omega) h2 (by omega)
   rw [if_neg h1,if_pos h2,if_pos this]
   ac_rfl
  ·have:=xor_lt8 (x:=2*x) (y:=2*y) (by omega) (by omega)
   rw [if_neg h1,if_neg h2,if_neg (by omega)]
theorem xtk_lt {m x:Nat} (hm:IsRest m) (hx:x < 256):∀ k,xtk m k x < 256
 | 0=>hx
 | k+1=>xt_lt hm (xtk_lt hm hx k)
theorem xtk_xor {m x y:Nat} (hm:IsRest m) (hx:x < 256) (hy:y < 256):∀ k,xtk m k (x ^^^ y)=xtk m k x ^^^ xtk m k y
 | 0=>rfl
 | k+1=>by rw [xtk,xtk,xtk,xtk_xor hm hx hy k,xt_xor (xtk_lt hm hx k) (xtk_lt hm hy k)]
theorem xtk_add (m x j:Nat):∀ k,xtk m (j+k) x=xtk m k (xtk m j x)
 | 0=>rfl
 | k+1=>by rw [← Nat.add_assoc,xtk,xtk_add m x j k];rfl
theorem gmk_lt {m a:Nat} (hm:IsRest m) (ha:a < 256) (b:Nat):∀ k,gmk m a b k < 256
 | 0=>by simp [gmk]
 | k+1=>by
   rw [gmk]
   split
   ·exact xor_lt8 (gmk_lt hm ha b k) (xtk_lt hm ha k)
   ·exact gmk_lt hm ha b k
theorem gm_lt {m a:Nat} (hm:IsRest m) (ha:a < 256) (b:Nat):gm m a b < 256:=gmk_lt hm ha b 8
theorem gmk_xor_left {m x y:Nat} (hm:IsRest m) (hx:x < 256) (hy:y < 256) (b:Nat):∀ k,gmk m (x ^^^ y) b k=gmk m x b k ^^^ gmk m y b k
 | 0=>by simp [gmk]
 | k+1=>by
   rw [gmk,gmk,gmk,gmk_xor_left hm hx hy b k]
   split
   ·rw [xtk_xor hm hx hy,xor_shuffle]
   ·rfl
theorem gm_xor_left {m x y:Nat} (hm:IsRest m) (hx:x < 256) (hy:y < 256) (b:Nat):gm m (x ^^^ y) b=gm m x b ^^^ gm m y b:=gmk_xor_left hm hx hy b 8
theorem bit_xor (b c k:Nat):(b ^^^ c) / 2 ^ k % 2=(b / 2 ^ k % 2+c / 2 ^ k % 2) % 2:=by
 rw [xor_div,← Go.nat_mask1,Nat.and_xor_distrib_right,Go.nat_mask1,Go.nat_mask1]
 have h1:=Nat.mod_lt (b / 2 ^ k) (show 0 < 2 by omega)
 have h2:=Nat.mod_lt (c / 2 ^ k) (show 0 < 2 by omega)
 generalize b / 2 ^ k % 2=u at *
 generalize c / 2 ^ k % 2=v at *
 match u,v,h1,h2 with
 | 0,0,_,_=>rfl
 | 0,1,_,_=>rfl
 | 1,0,_,_=>rfl
 | 1,1,_,_=>rfl
theorem gmk_xor_right (m a b c:Nat):∀ k,gmk m a (b ^^^ c) k=gmk m a b k ^^^ gmk m a c k
 | 0=>by simp [gmk]
 | k+1=>by
   rw [gmk,gmk,gmk,gmk_xor_right m a b c k,bit_xor]
   have h1:=Nat.mod_lt (b / 2 ^ k) (show 0 < 2 by omega)
   have h2:=Nat.mod_lt (c / 2 ^ k) (show 0 < 2 by omega)
   by_cases hb:b / 2 ^ k % 2=1
   ·by_cases hc:c / 2 ^ k % 2=1
    ·rw [if_pos hb,if_pos hc,if_neg (by omega),xor_shuffle,Nat.xor_self,Nat.xor_zero]
    ·rw [if_pos hb,if_neg hc,if_pos (by omega)];ac_rfl
   ·by_cases hc:c / 2 ^ k % 2=1
    ·rw [if_neg hb,if_pos hc,if_pos (by omega)];ac_rfl
    ·rw [if_neg hb,if_neg hc,if_neg (by omega)]
theorem gm_xor_right (m a b c:Nat):gm m a (b ^^^ c)=gm m a b ^^^ gm m a c:=gmk_xor_right m a b c 8
theorem gm_pow2 (m a k:Nat) (hk:k < 8):gm m a (2 ^ k)=xtk m k a:=by
 unfold gm
 match k,hk with
 | 0,_ | 1,_ | 2,_ | 3,_ | 4,_ | 5,_ | 6,_ | 7,_=>simp [gmk]
theorem byte_bits:∀ b < 256,b=(if b / 2 ^ 0 % 2=1 then 1 else 0) ^^^ (if b / 2 ^ 1 % 2=1 then 2 else 0) ^^^ (if b / 2 ^ 2 % 2=1 then 4 else 0) ^^^ (if b / 2 ^ 3 % 2=1 then 8 else 0) ^^^
  (if b / 2 ^ 4 % 2=1 then 16 else 0) ^^^ (if b / 2 ^ 5 % 2=1 then 32 else 0) ^^^ (if b / 2 ^ 6 % 2=1 then 64 else 0) ^^^ (if b / 2 ^ 7 % 2=1 then 128 else 0):=by decide +kernel
theorem lin_ext (f g:Nat→Nat) (hf:∀ x y,x < 256→y < 256→f (x ^^^ y)=f x ^^^ f y) (hg:∀ x y,x < 256→y < 256→g (x ^^^ y)=g x ^^^ g y)
  (h:∀ k,k < 8→f (2 ^ k)=g (2 ^ k)) (b:Nat) (hb:b < 256):f b=g b:=by
 have f0:f 0=0:=by have:=hf 0 0 (by omega) (by omega);rw [Nat.xor_self,Nat.xor_self] at this;exact this
 have g0:g 0=0:=by have:=hg 0 0 (by omega) (by omega);rw [Nat.xor_self,Nat.xor_self] at this;exact this
 have key:∀ (p:Prop) [Decidable p] (k:Nat),k < 8→f (if p then 2 ^ k else 0)=g (if p then 2 ^ k else 0):=by
  intro p _ k hk
  split
  ·exact h k hk
  ·rw [f0,g0]
 have lt:∀ (p:Prop) [Decidable p] (k:Nat),k < 8→(if p then 2 ^ k else 0) < 256:=by
  intro p _ k hk
  split
  ·exact Nat.lt_of_lt_of_le (Nat.pow_lt_pow_right (by omega) hk) (by omega:2 ^ 8≤256)
  ·omega
 have step:∀ x y,x < 256→y < 256→f x=g x→f y=g y→f (x ^^^ y)=g (x ^^^ y):=by
  intro x y hx hy h1 h2
  rw [hf x y hx hy,hg x y hx hy,h1,h2]
 rw [byte_bits b hb]
 have l0:=lt (b / 2 ^ 0 % 2=1) 0 (by omega);have e0:=key (b / 2 ^ 0 % 2=1) 0 (by omega)
 have l1:=lt (b / 2 ^ 1 % 2=1) 1 (by omega);have e1:=key (b / 2 ^ 1 % 2=1) 1 (by omega)
 have l2:=lt (b / 2 ^ 2 % 2=1) 2 (by omega);have e2:=key (b / 2 ^ 2 % 2=1) 2 (by omega)
 have l3:=lt (b / 2 ^ 3 % 2=1) 3 (by omega);have e3:=key (b / 2 ^ 3 % 2=1) 3 (by omega)
 have l4:=lt (b / 2 ^ 4 % 2=1) 4 (by omega);have e4:=key (b / 2 ^ 4 % 2=1) 4 (by omega)
 have l5:=lt (b / 2 ^ 5 % 2=1) 5 (by omega);have e5:=key (b / 2 ^ 5 % 2=1) 5 (by omega)
 have l6:=lt (b / 2 ^ 6 % 2=1) 6 (by omega);have e6:=key (b / 2 ^ 6 % 2=1) 6 (by omega)
 have l7:=lt (b / 2 ^ 7 % 2=1) 7 (by omega);have e7:=key (b / 2 ^ 7 % 2=1) 7 (by omega)
 have a1:=step _ _ l0 l1 e0 e1;have m1:=xor_lt8 l0 l1
 have a2:=step _ _ m1 l2 a1 e2;have m2:=xor_lt8 m1 l2
 have a3:=step _ _ m2 l3 a2 e3;have m3:=xor_lt8 m2 l3
 have a4:=step _ _ m3 l4 a3 e4;have m4:=xor_lt8 m3 l4
 have a5:=step _ _ m4 l5 a4 e5;have m5:=xor_lt8 m4 l5
 have a6:=step _ _ m5 l6 a5 e6;have m6:=xor_lt8 m5 l6
 exact step _ _ m6 l7 a6 e7
theorem xtk_one (m k:Nat) (hk:k < 8):xtk m k 1=2 ^ k:=by
 match k,hk with
 | 0,_ | 1,_ | 2,_ | 3,_ | 4,_ | 5,_ | 6,_ | 7,_=>simp [xtk,xt]
theorem pow2_lt {k:Nat} (hk:k < 8):2 ^ k < 256:=Nat.lt_of_lt_of_le (Nat.pow_lt_pow_right (by omega) hk) (by omega:2 ^ 8≤256)
theorem gm_comm {m:Nat} (hm:IsRest m) {a b:Nat} (ha:a < 256) (hb:b < 256):gm m a b=gm m b a:=by
 refine lin_ext (fun b=>gm m a b) (fun b=>gm m b a) (fun x y _ _=>gm_xor_right m a x y) (fun x y hx hy=>gm_xor_left hm hx hy a) (fun k hk=>?_) b hb
 show gm m a (2 ^ k)=gm m (2 ^ k) a
 refine lin_ext (fun a=>gm m a (2 ^ k)) (fun a=>gm m (2 ^ k) a) (fun x y hx hy=>gm_xor_left hm hx hy _) (fun x y _ _=>gm_xor_right m _ x y) (fun j hj=>?_) a ha
 show gm m (2 ^ j) (2 ^ k)=gm m (2 ^ k) (2 ^ j)
 rw [gm_pow2 _ _ _ hk,gm_pow2 _ _ _ hj,← xtk_one m j hj,← xtk_one m k hk,← xtk_add,← xtk_add,Nat.add_comm]
theorem gmk_xt {m a:Nat} (hm:IsRest m) (ha:a < 256) (b:Nat):∀ k,xt m (gmk m a b k)=gmk m (xt m a) b k
 | 0=>xt_zero m
 | k+1=>by
   have e:xtk m k (xt m a)=xt m (xtk m k a):=by
    have h1:=xtk_add m a 1 k
    have h2:=xtk_add m a k 1
    rw [Nat.add_comm k 1] at h2
    rw [h2] at h1
    exact h1.symm
   rw [gmk,gmk]
   split
   ·rw [xt_xor (gmk_lt hm ha b k) (xtk_lt hm ha k),gmk_xt hm ha b k,e]
   ·exact gmk_xt hm ha b k
theorem gm_xt {m a:Nat} (hm:IsRest m) (ha:a < 256) (b:Nat):xt m (gm m a b)=gm m (xt m a) b:=gmk_xt hm ha b 8
theorem gm_xtk {m a:Nat} (hm:IsRest m) (ha:a < 256) (b:Nat):∀ k,xtk m k (gm m a b)=gm m (xtk m k a) b
 | 0=>rfl
 | k+1=>by rw [xtk,xtk,gm_xtk hm ha b k,gm_xt hm (xtk_lt hm ha k)]
theorem gm_assoc {m:Nat} (hm:IsRest m) {a b c:Nat} (ha:a < 256) (hb:b < 256) (hc:c < 256):gm m (gm m a b) c=gm m a (gm m b c):=by
 refine lin_ext (fun c=>gm m (gm m a b) c) (fun c=>gm m a (gm m b c)) (fun x y _ _=>gm_xor_right _ _ x y) (fun x y _ _=>?_) (fun k hk=>?_) c hc
 ·show gm m a (gm m b (x ^^^ y))=_
  rw [gm_xor_right,gm_xor_right]
 ·show gm m (gm m a b) (2 ^ k)=gm m a (gm m b (2 ^ k))
  rw [gm_pow2 _ _ _ hk,gm_pow2 _ _ _ hk,gm_comm hm ha hb,gm_comm hm ha (xtk_lt hm hb k),gm_xtk hm hb]
theorem gm_one {m a:Nat}:gm m a 1=a:=gm_pow2 m a 0 (by omega)
theorem gm_one_left {m a:Nat} (hm:IsRest m) (ha:a < 256):gm m 1 a=a:=by rw [gm_comm hm (by omega) ha,gm_one]
def gp (m a:Nat):Nat→Nat
 | 0=>1
 | n+1=>gm m (gp m a n) a
theorem gp_lt {m a:Nat} (hm:IsRest m):∀ n,gp m a n < 256
 | 0=>by simp [gp]
 | n+1=>gm_lt hm (gp_lt hm n) a
theorem gp_add {m a:Nat} (hm:IsRest m) (ha:a < 256) (i:Nat):∀ j,gp m a (i+j)=gm m (gp m a i) (gp m a j)
 | 0=>gm_one.symm
 | j+1=>by
   rw [← Nat.add_assoc,gp,gp,gp_add hm ha i j,gm_assoc hm (gp_lt hm i) (gp_lt hm j) ha]
theorem gp_mul {m a:Nat} (hm:IsRest m) (ha:a < 256) (i:Nat):∀ j,gp m (gp m a i) j=gp m a (i*j)
 | 0=>rfl
 | j+1=>by
   rw [gp,gp_mul hm ha i j,Nat.mul_succ,gp_add hm ha]
theorem gp_two {m a:Nat} (hm:IsRest m) (ha:a < 256):gp m a 2=gm m a a:=by
 rw [show gp m a 2=gm m (gm m 1 a) a from rfl,gm_one_left hm ha]
theorem gp_one {m a:Nat} (hm:IsRest m) (ha:a < 256):gp m a 1=a:=gm_one_left hm ha
def p3 (m a:Nat):Nat:=gm m (gm m a a) a
theorem gp_half_odd {m s a n:Nat} (hm:IsRest m) (hs:s < 256) (ha:a < 256) (hn:n % 2=1):gm m s (gp m a n)=gm m (gm m s a) (gp m (gm m a a) (n / 2)):=by
 have e:n=1+2*(n / 2):=by omega
 conv=>lhs;rw [e]
 rw [gp_add hm ha,gp_one hm ha,← gm_assoc hm hs ha (gp_lt hm _),← gp_mul hm ha 2,gp_two hm ha]
theorem gp_half_even {m a n:Nat} (hm:IsRest m) (ha:a < 256) (hn:n % 2=0):gp m a n=gp m (gm m a a) (n / 2):=by
 have e:n=2*(n / 2):=by omega
 conv=>lhs;rw [e]
 rw [← gp_mul hm ha 2,gp_two hm ha]
end Go.Proofs.YtbgkmicelmenfaaGreatDoor.A
namespace Go.Proofs.YtbgkmicelmenfaaGreatDoor.A
open Go.RowKit
set_option maxRecDepth 100000
theorem i64_xor_nat (a b:Nat) (ha:a < 1024) (hb:b < 1024):bits .xor .i64 (a:Int) (b:Int)=((a ^^^ b:Nat):Int):=by
 have e0:bits .xor .i64 (a:Int) (b:Int)=IntKind.i64.wrap ((BitVec.ofInt 64 (a:Int) ^^^ BitVec.ofInt 64 (b:Int)).toNat:Int):=rfl
 have h:a ^^^ b < 2 ^ 10:=Nat.xor_lt_two_pow ha hb
 have e:(BitVec.ofInt 64 (a:Int) ^^^ BitVec.ofInt 64 (b:Int)).toNat=a ^^^ b:=by
  rw [BitVec.toNat_xor,BitVec.toNat_ofInt,BitVec.toNat_ofInt]
  have h1:((a:Int) % ((2 ^ 64:Nat):Int)).toNat=a:=by omega
  have h2:((b:Int) % ((2 ^ 64:Nat):Int)).toNat=b:=by omega
  rw [h1,h2]
 rw [e0,e]
 simp [IntKind.wrap,IntKind.bits,IntKind.signed]
 omega
theorem u8_and_one (q:Nat) (h:q < 256):bits .and .u8 (q:Int) 1=((q % 2:Nat):Int):=by
 rw [show (1:Int)=((1:Nat):Int) from rfl,u8_and_nat _ _ h (by omega),nat_mask1]
theorem gmk_stop {m a b k:Nat} (h:b / 2 ^ k=0):∀ j,gmk m a b (k+j)=gmk m a b k
 | 0=>rfl
 | j+1=>by
   rw [← Nat.add_assoc,gmk,if_neg,gmk_stop h j]
   rw [Nat.pow_add,← Nat.div_div_eq_div_mul,h]
   simp
theorem gm_stop {m a b k:Nat} (hk:k≤8) (h:b / 2 ^ k=0):gm m a b=gmk m a b k:=by
 have:=gmk_stop (m:=m) (a:=a) h (8 - k)
 rw [show k+(8 - k)=8 by omega] at this
 exact this
theorem isMod_any (m:Int) (w:World) (h0:256≤m) (h1:m≤511):Calls Tryz.prog 205 #[.int .i64 m] w fun e w'=>e=.returned (.bool true)∧w=w':=by
 go_enter Tryz.func205,Tryz.ntmps205
 go_wp2
 go_ret
 exact ⟨rfl,rfl⟩
structure MulS (m a b k:Nat) (s x q:Int):Prop where
 hk:k < 8
 hs:s=(gmk m a b k:Nat)
 hx:x=(xtk m k a:Nat)
 hq:q=(b / 2 ^ k:Nat)
theorem MulS.bnd {m a b k:Nat} {s x q:Int} (h:MulS m a b k s x q) (_hm:IsRest m) (_ha:a < 256) (_hb:b < 256):0≤s∧s < 256∧0≤x∧x < 256∧0≤q∧q < 256:=by
 have h1:=gmk_lt _hm _ha b k
 have h2:=xtk_lt _hm _ha k
 have h3:b / 2 ^ k < 256:=Nat.lt_of_le_of_lt (Nat.div_le_self _ _) _hb
 have e1:=h.hs;have e2:=h.hx;have e3:=h.hq
 generalize gmk m a b k=S at *
 generalize xtk m k a=X at *
 generalize b / 2 ^ k=Q at *
 omega
theorem MulS.and1 {m a b k:Nat} {s x q:Int} (h:MulS m a b k s x q) (_hm:IsRest m) (_ha:a < 256) (_hb:b < 256):bits .and .u8 q 1=((b / 2 ^ k % 2:Nat):Int):=by
 rw [h.hq]
 exact u8_and_one _ (Nat.lt_of_le_of_lt (Nat.div_le_self _ _) _hb)
theorem MulS.odd {m a b k:Nat} {s x q:Int} (h:MulS m a b k s x q) (_hm:IsRest m) (_ha:a < 256) (_hb:b < 256) (c:(bits .and .u8 q 1 != 0)=true):bits .xor .i64 s x=(gmk m a b (k+1):Nat):=by
 rw [h.and1 _hm _ha _hb] at c
 have c:b / 2 ^ k % 2=1:=by
  have:b / 2 ^ k % 2 ≠ 0:=by intro h0;rw [h0] at c;simp at c
  omega
 rw [gmk,if_pos c,h.hs,h.hx]
 have:=gmk_lt _hm _ha b k
 have:=xtk_lt _hm _ha k
 exact i64_xor_nat _ _ (by omega) (by omega)
theorem MulS.even {m a b k:Nat} {s x q:Int} (h:MulS m a b k s x q) (_hm:IsRest m) (_ha:a < 256) (_hb:b < 256) (c:(bits .and .u8 q 1 != 0)=false):s=(gmk m a b (k+1):Nat):=by
 rw [h.and1 _hm _ha _hb] at c
 have c:¬ b / 2 ^ k % 2=1:=by
  intro h0;rw [h0] at c;simp at c
 rw [gmk,if_neg c,h.hs]
theorem MulS.over {m a b k:Nat} {s x q:Int} (h:MulS m a b k s x q) (_hm:IsRest m) (_ha:a < 256) (_hb:b < 256) (c:255 < x*2):bits .xor .i64 (x*2) m=(xtk m (k+1) a:Nat):=by
 have:=xtk_lt _hm _ha k
 have hm1:=_hm.hi
 rw [h.hx] at c ⊢
 rw [xtk,xt,if_pos (by omega),show (xtk m k a:Int)*2=((2*xtk m k a:Nat):Int) by omega]
 exact i64_xor_nat _ _ (by omega) (by omega)
theorem MulS.under {m a b k:Nat} {s x q:Int} (h:MulS m a b k s x q) (_hm:IsRest m) (_ha:a < 256) (_hb:b < 256) (c:x*2≤255):x*2=(xtk m (k+1) a:Nat):=by
 rw [h.hx] at c ⊢
 rw [xtk,xt,if_neg (by omega)]
 omega
theorem MulS.half {m a b k:Nat} {s x q:Int} (h:MulS m a b k s x q) (_hm:IsRest m) (_ha:a < 256) (_hb:b < 256):q / 2=(b / 2 ^ (k+1):Nat):=by
 rw [h.hq,Nat.pow_succ,← Nat.div_div_eq_div_mul]
 omega
theorem MulS.more {m a b k:Nat} {s x q:Int} (h:MulS m a b k s x q) (_hm:IsRest m) (_ha:a < 256) (_hb:b < 256) (c:(q / 2 != 0)=true):k+1 < 8:=by
 have hk:=h.hk
 rw [h.half _hm _ha _hb] at c
 rcases Nat.lt_or_ge (k+1) 8 with h8 | h8
 ·exact h8
 ·have:b / 2 ^ (k+1)=0:=by rw [show k+1=8 by omega];omega
  rw [this] at c;simp at c
theorem MulS.stop {m a b k:Nat} {s x q:Int} (h:MulS m a b k s x q) (_hm:IsRest m) (_ha:a < 256) (_hb:b < 256) (c:(q / 2 != 0)=false):gmk m a b (k+1)=gm m a b:=by
 have hk:=h.hk
 rw [h.half _hm _ha _hb] at c
 refine (gm_stop (by omega) ?_).symm
 simp only [bne_eq_false_iff_eq] at c
 exact_mod_cast c
theorem MulS.less {m a b k:Nat} {s x q:Int} (h:MulS m a b k s x q) (_hm:IsRest m) (_ha:a < 256) (_hb:b < 256) (c:(q / 2 != 0)=true):(q / 2).toNat < q.toNat:=by
 have:=h.bnd _hm _ha _hb
 have:q / 2 ≠ 0:=by simpa using c
 omega
theorem MulS.fin1 {m a b k:Nat} {s x q:Int} (h:MulS m a b k s x q) (_hm:IsRest m) (_ha:a < 256) (_hb:b < 256) (c:(bits .and .u8 q 1 != 0)=true) (c':(q / 2 != 0)=false):bits .xor .i64 s x % 256=(gm m a b:Nat):=by
 rw [h.odd _hm _ha _hb c,h.stop _hm _ha _hb c']
 have:=gm_lt _hm _ha b
 omega
theorem MulS.fin2 {m a b k:Nat} {s x q:Int} (h:MulS m a b k s x q) (_hm:IsRest m) (_ha:a < 256) (_hb:b < 256) (c:(bits .and .u8 q 1 != 0)=false) (c':(q / 2 != 0)=false):s % 256=(gm m a b:Nat):=by
 rw [h.even _hm _ha _hb c,h.stop _hm _ha _hb c']
 have:=gm_lt _hm _ha b
 omega
theorem MulS.odd1 {m a b k:Nat} {s x:Int} (h:MulS m a b k s x (b / 2 ^ k:Nat)) (hm:IsRest m) (ha:a < 256) (hb:b < 256) (c:(bits .and .u8 ((b:Int) / 2 ^ k) 1 == 1)=true):bits .xor .i64 s x=(gmk m a b (k+1):Nat):=by
 refine h.odd hm ha hb ?_
 have e:((b / 2 ^ k:Nat):Int)=(b:Int) / 2 ^ k:=by simp
 rw [e]
 have:bits .and .u8 ((b:Int) / 2 ^ k) 1=1:=by simpa using c
 rw [this];rfl
theorem MulS.even1 {m a b k:Nat} {s x:Int} (h:MulS m a b k s x (b / 2 ^ k:Nat)) (hm:IsRest m) (ha:a < 256) (hb:b < 256) (c:(bits .and .u8 ((b:Int) / 2 ^ k) 1 == 1)=false):s=(gmk m a b (k+1):Nat):=by
 refine h.even hm ha hb ?_
 have h1:=h.and1 hm ha hb
 have e:((b / 2 ^ k:Nat):Int)=(b:Int) / 2 ^ k:=by simp
 rw [e] at h1 ⊢
 rw [h1] at c ⊢
 have h2:=Nat.mod_lt (b / 2 ^ k) (show 0 < 2 by omega)
 generalize b / 2 ^ k % 2=g at *
 match g,h2 with
 | 0,_=>rfl
 | 1,_=>simp at c
def MulJ (m a b:Nat) (w:World) (a':Act) (w':World):Prop :=
 w=w'∧∃ (k:Nat) (s x q:Int) (u14 u15 u16 u17 u18 u19 u20 u21 u22 u23 u24 u25 u26 u27 u28 u29 u30:Value),
  a' = { tmps:=#[.int .u8 a,.int .u8 q,.int .i64 m,undef,undef,undef,.int .u8 0,.int .i64 s,.int .i64 x,.int .i64 m,.bool true,.bool false,.int .u8 a,.int .i64 a,
   u14,u15,u16,u17,u18,u19,u20,u21,u22,u23,u24,u25,u26,u27,u28,u29,u30,undef,undef],defers:=[] }∧MulS m a b k s x q
def qOf (a:Act):Nat:=match a.tmps.getD 1 undef with | .int _ q=>q.toNat | _=>0
set_option maxHeartbeats 4000000 in
theorem mul_any (a b m:Nat) (w:World) (hm:IsRest m) (ha:a < 256) (hb:b < 256) :
  Calls Tryz.prog 202 #[.int .u8 a,.int .u8 b,.int .i64 m] w fun e w'=>e=.returned (.int .u8 (gm m a b:Nat))∧w=w':=by
 have h0:=hm.lo
 have h1:=hm.hi
 go_enter Tryz.func202,Tryz.ntmps202
 go_wp2_with fail
 refine wp_scope_jumps 0 (MulJ m a b w) (fun a' _=>qOf a') rfl ?_ ?_
 ·have HS:=hid (show MulS m a b 0 0 a b from ⟨by omega,rfl,rfl,by simp⟩)
  have HM:=hid hm
  clear hm
  go_wp2_with (go_at_call 205;refine (isMod_any _ _ (by omega) (by omega)).mono ?_;rintro e w' ⟨rfl,rfl⟩)
  go_step3
  go_wp2
  all_goals (try go_step3)
  all_goals first
   | (refine ⟨rfl,rfl,_,_,_,_,_,_,_,_,_,_,_,_,_,_,_,_,_,_,_,_,_,rfl,⟨HS.out.more HM.out ha hb (by assumption),(by first | exact HS.out.odd HM.out ha hb (by assumption) | exact HS.out.even HM.out ha hb (by assumption)),(by first | exact HS.out.over HM.out ha hb (by assumption) | exact HS.out.under HM.out ha hb (by assumption)),HS.out.half HM.out ha hb⟩⟩)
   | (simp only [Exit.jump]
      go_ret
      refine ⟨ret_int ?_,rfl⟩
      first
       | exact HS.out.fin1 HM.out ha hb (by assumption) (by assumption)
       | exact HS.out.fin2 HM.out ha hb (by assumption) (by assumption)
       | exact (HS.out.even HM.out ha hb (by assumption)).trans (by rw [HS.out.stop HM.out ha hb (by assumption)]))
 ·rintro a' w' ⟨rfl,k,s,x,q,u14,u15,u16,u17,u18,u19,u20,u21,u22,u23,u24,u25,u26,u27,u28,u29,u30,rfl,hS⟩
  have hB:=hS.bnd hm ha hb
  obtain ⟨hb0,hb1,hb2,hb3,hb4,hb5⟩:=hB
  have HS:=hid hS
  have HM:=hid hm
  clear hS hm
  go_wp2
  all_goals (try go_step3)
  all_goals first
   | (refine ⟨rfl,⟨rfl,_,_,_,_,_,_,_,_,_,_,_,_,_,_,_,_,_,_,_,_,_,rfl,⟨HS.out.more HM.out ha hb (by assumption),(by first | exact HS.out.odd HM.out ha hb (by assumption) | exact HS.out.even HM.out ha hb (by assumption)),(by first | exact HS.out.over HM.out ha hb (by assumption) | exact HS.out.under HM.out ha hb (by assumption)),HS.out.half HM.out ha hb⟩⟩,HS.out.less HM.out ha hb (by assumption)⟩)
   | (simp only [Exit.jump]
      go_ret
      refine ⟨ret_int ?_,rfl⟩
      first
       | exact HS.out.fin1 HM.out ha hb (by assumption) (by assumption)
       | exact HS.out.fin2 HM.out ha hb (by assumption) (by assumption)
       | exact (HS.out.even HM.out ha hb (by assumption)).trans (by rw [HS.out.stop HM.out ha hb (by assumption)]))
set_option maxHeartbeats 2000000 in
theorem rmul_any (a b m:Nat) (w:World) (hm:IsRest m) (ha:a < 256) (hb:b < 256) :
  Calls Tryz.prog 179 #[.int .u8 a,.int .u8 b,.int .i64 m] w fun e w'=>e=.returned (.int .u8 (gm m a b:Nat))∧w=w':=by
 have h0:=hm.lo
 have h1:=hm.hi
 go_enter Tryz.func179,Tryz.ntmps179
 go_wp2_with fail
 go_loop [7,8,9] (fun s x i=>∃ (k:Nat) (S X:Int),k≤8∧i=.int .u64 k∧s=.int .i64 S∧x=.int .i64 X∧S=(gmk m a b k:Nat)∧X=(xtk m k a:Nat)) (fun _ _ i=>(8 - intOf i).toNat)
 case atStart=>exact ⟨0,_,_,by omega,rfl,rfl,rfl,rfl,rfl⟩
 case round =>
  obtain ⟨k,S,X,hk,rfl,rfl,rfl,hS,hX⟩:=hrel
  by_cases hlt:k < 8
  ·have hS':MulS m a b k S X (b / 2 ^ k:Nat):=⟨hlt,hS,hX,rfl⟩
   obtain ⟨hb0,hb1,hb2,hb3,hb4,hb5⟩:=hS'.bnd hm ha hb
   have h1':=hid (hS'.and1 hm ha hb)
   have HS:=hid hS'
   have HM:=hid hm
   clear hS hX hS' hm hb4 hb5
   go_wp2
   all_goals refine ⟨⟨k+1,_,_,by omega,by go_num,rfl,rfl,(by first | exact HS.out.odd1 HM.out ha hb (by assumption) | exact HS.out.even1 HM.out ha hb (by assumption)),(by first | exact HS.out.over HM.out ha hb (by omega) | exact HS.out.under HM.out ha hb (by omega))⟩,by simp [intOf];omega⟩
  ·obtain rfl:k=8:=by omega
   have HF:=hid (show S=(gm m a b:Nat) from hS)
   have hl:=gm_lt hm ha b
   have hX2:=xtk_lt hm ha 8
   have hS0:0≤S∧S < 256:=by
    have:=HF.out
    generalize gm m a b=G at *
    omega
   clear hS hX hm hl hX2
   go_wp2
   go_ret
   exact ⟨ret_int (by rw [HF.out]),rfl⟩
end Go.Proofs.YtbgkmicelmenfaaGreatDoor.A
namespace Go.Proofs.YtbgkmicelmenfaaGreatDoor.A
open Go.RowKit
set_option maxRecDepth 100000
theorem and1i (t:Int):bits .and .i64 t 1=t % 2:=by
 have e0:bits .and .i64 t 1=IntKind.i64.wrap ((BitVec.ofInt 64 t &&& BitVec.ofInt 64 1).toNat:Int):=rfl
 have e:(BitVec.ofInt 64 t &&& BitVec.ofInt 64 1).toNat=(t % 2).toNat:=by
  rw [BitVec.toNat_and,BitVec.toNat_ofInt,BitVec.toNat_ofInt]
  have:(1 % ((2 ^ 64:Nat):Int)).toNat=1:=rfl
  rw [this,nat_mask1]
  omega
 rw [e0,e]
 simp [IntKind.wrap,IntKind.bits,IntKind.signed]
 omega
structure PowS (m a n0:Nat) (p x n:Nat):Prop where
 he:gm m p (gp m x n)=gp m a n0
 hp:p < 256
 hx:x < 256
 hn:n≤1000000
theorem PowS.odd {m a n0 p x n:Nat} (h:PowS m a n0 p x n) (hm:IsRest m) (c:n % 2=1):PowS m a n0 (gm m p x) (gm m x x) (n / 2) :=
 ⟨(gp_half_odd hm h.hp h.hx c).symm.trans h.he,gm_lt hm h.hp _,gm_lt hm h.hx _,by have:=h.hn;omega⟩
theorem PowS.even {m a n0 p x n:Nat} (h:PowS m a n0 p x n) (hm:IsRest m) (c:n % 2=0):PowS m a n0 p (gm m x x) (n / 2) :=
 ⟨by rw [← gp_half_even hm h.hx c];exact h.he,h.hp,gm_lt hm h.hx _,by have:=h.hn;omega⟩
theorem PowS.stop {m a n0 p x:Nat} (h:PowS m a n0 p x 0):p=gp m a n0:=by
 have:=h.he
 rw [show gp m x 0=1 from rfl,gm_one] at this
 exact this
def PowJ (m a n0:Nat) (w:World) (a':Act) (w':World):Prop :=
 w=w'∧∃ (p x n:Nat) (N:Int) (u8 u9 u10 u11 u12 u13 u14 u15 u16 u17 u18 u19 u20 u21 u22 u23 u24 u25 u26 u27 u28 u29 u30 u31 u32 u33:Value),
  a' = { tmps:=#[.int .u8 x,.int .i64 N,.int .i64 m,undef,undef,undef,.int .u8 0,.int .u8 p,
   u8,u9,u10,u11,u12,u13,u14,u15,u16,u17,u18,u19,u20,u21,u22,u23,u24,u25,u26,u27,u28,u29,u30,u31,u32,u33,undef],defers:=[] }∧N=n∧PowS m a n0 p x n
def nOf (a:Act):Nat:=match a.tmps.getD 1 undef with | .int _ q=>q.toNat | _=>0
set_option maxHeartbeats 4000000 in
theorem pow_any (a n0 m:Nat) (w:World) (hm:IsRest m) (ha:a < 256) (hn:n0≤1000000) :
  Calls Tryz.prog 171 #[.int .u8 a,.int .i64 n0,.int .i64 m] w fun e w'=>e=.returned (.int .u8 (gp m a n0:Nat))∧w=w':=by
 have h0:=hm.lo
 have h1:=hm.hi
 have HM:=hid hm
 clear hm
 go_enter Tryz.func171,Tryz.ntmps171
 go_wp2_with fail
 refine wp_scope_jumps 0 (PowJ m a n0 w) (fun a' _=>nOf a') rfl ?_ ?_
 ·have HS:=hid (show PowS m a n0 1 a n0 from ⟨gm_one_left HM.out (gp_lt HM.out _),by omega,ha,hn⟩)
  have n0':¬ (n0:Int) < 0:=by omega
  have n1':¬ (1000000:Int) < n0:=by omega
  go_wp2_with (go_at_call 205;refine (isMod_any _ _ (by omega) (by omega)).mono ?_;rintro e w' ⟨rfl,rfl⟩)
  go_step3
  clear n0' n1'
  by_cases hodd:n0 % 2=1
  ·have hA:bits .and .i64 (n0:Int) 1=1:=by rw [and1i];omega
   have HS2:=hid (HS.out.odd HM.out hodd)
   clear hodd
   go_wp2_with fail
   refine (mul_any 1 a m _ HM.out (by omega) ha).mono ?_
   rintro e w' ⟨rfl,rfl⟩
   go_wp2_with fail
   refine (mul_any a a m _ HM.out ha ha).mono ?_
   rintro e w' ⟨rfl,rfl⟩
   go_wp2_with fail
   ·go_step3
    rename_i hne
    have hne2:((n0:Nat):Int) / 2 ≠ 0:=by simpa using hne
    refine ⟨rfl,rfl,_,_,n0 / 2,((n0:Nat):Int) / 2,_,_,_,_,_,_,_,_,_,_,_,_,_,_,_,_,_,_,_,_,_,_,_,_,_,_,rfl,by omega,HS2.out⟩
   ·rename_i hz
    have hz2:n0 / 2=0:=by
     have:((n0:Nat):Int) / 2=0:=by simpa using hz
     omega
    have hs2:=HS2.out
    rw [hz2] at hs2
    have HF:=hid hs2.stop
    clear hs2
    simp only [Exit.jump]
    go_ret
    exact ⟨ret_int (by have:=HF.out;omega),rfl⟩
  ·have hA:bits .and .i64 (n0:Int) 1=0:=by rw [and1i];omega
   have HS2:=hid (HS.out.even HM.out (by omega))
   clear hodd
   go_wp2_with fail
   refine (mul_any a a m _ HM.out ha ha).mono ?_
   rintro e w' ⟨rfl,rfl⟩
   go_wp2_with fail
   ·go_step3
    rename_i hne
    have hne2:((n0:Nat):Int) / 2 ≠ 0:=by simpa using hne
    refine ⟨rfl,rfl,_,_,n0 / 2,((n0:Nat):Int) / 2,_,_,_,_,_,_,_,_,_,_,_,_,_,_,_,_,_,_,_,_,_,_,_,_,_,_,rfl,by omega,HS2.out⟩
   ·rename_i hz
    have hz2:n0 / 2=0:=by
     have:((n0:Nat):Int) / 2=0:=by simpa using hz
     omega
    have hs2:=HS2.out
    rw [hz2] at hs2
    have HF:=hid hs2.stop
    clear hs2
    simp only [Exit.jump]
    go_ret
    exact ⟨ret_int (by have:=HF.out;omega),rfl⟩
 ·rintro a' w' ⟨rfl,p,x,n,N,u8,u9,u10,u11,u12,u13,u14,u15,u16,u17,u18,u19,u20,u21,u22,u23,u24,u25,u26,u27,u28,u29,u30,u31,u32,u33,rfl,rfl,hS⟩
  have hp:=hS.hp
  have hx:=hS.hx
  have hn':=hS.hn
  have HS:=hid hS
  clear hS
  by_cases hodd:n % 2=1
  ·have hA:bits .and .i64 (n:Int) 1=1:=by rw [and1i];omega
   have HS2:=hid (HS.out.odd HM.out hodd)
   clear hodd
   go_wp2_with fail
   refine (mul_any p x m _ HM.out hp hx).mono ?_
   rintro e w' ⟨rfl,rfl⟩
   go_wp2_with fail
   refine (mul_any x x m _ HM.out hx hx).mono ?_
   rintro e w' ⟨rfl,rfl⟩
   go_wp2_with fail
   ·go_step3
    rename_i hne
    have hne2:((n:Nat):Int) / 2 ≠ 0:=by simpa using hne
    refine ⟨rfl,⟨rfl,_,_,n / 2,((n:Nat):Int) / 2,_,_,_,_,_,_,_,_,_,_,_,_,_,_,_,_,_,_,_,_,_,_,_,_,_,_,rfl,by omega,HS2.out⟩,by simp [nOf];omega⟩
   ·rename_i hz
    have hz2:n / 2=0:=by
     have:((n:Nat):Int) / 2=0:=by simpa using hz
     omega
    have hs2:=HS2.out
    rw [hz2] at hs2
    have HF:=hid hs2.stop
    clear hs2
    simp only [Exit.jump]
    go_ret
    exact ⟨ret_int (by have:=HF.out;omega),rfl⟩
  ·have hA:bits .and .i64 (n:Int) 1=0:=by rw [and1i];omega
   have HS2:=hid (HS.out.even HM.out (by omega))
   clear hodd
   go_wp2_with fail
   refine (mul_any x x m _ HM.out hx hx).mono ?_
   rintro e w' ⟨rfl,rfl⟩
   go_wp2_with fail
   ·go_step3
    rename_i hne
    have hne2:((n:Nat):Int) / 2 ≠ 0:=by simpa using hne
    refine ⟨rfl,⟨rfl,_,_,n / 2,((n:Nat):Int) / 2,_,_,_,_,_,_,_,_,_,_,_,_,_,_,_,_,_,_,_,_,_,_,_,_,_,_,rfl,by omega,HS2.out⟩,by simp [nOf];omega⟩
   ·rename_i hz
    have hz2:n / 2=0:=by
     have:((n:Nat):Int) / 2=0:=by simpa using hz
     omega
    have hs2:=HS2.out
    rw [hz2] at hs2
    have HF:=hid hs2.stop
    clear hs2
    simp only [Exit.jump]
    go_ret
    exact ⟨ret_int (by have:=HF.out;omega),rfl⟩
set_option maxHeartbeats 2000000 in
theorem rpow_any (a n0 m:Nat) (w:World) (hm:IsRest m) (ha:a < 256) (hn:n0≤1000000) :
  Calls Tryz.prog 183 #[.int .u8 a,.int .i64 n0,.int .i64 m] w fun e w'=>e=.returned (.int .u8 (gp m a n0:Nat))∧w=w':=by
 have HM:=hid hm
 clear hm
 have HS0:=hid (show PowS m a n0 1 a n0 from ⟨gm_one_left HM.out (gp_lt HM.out _),by omega,ha,hn⟩)
 go_enter Tryz.func183,Tryz.ntmps183
 go_wp2_with fail
 go_loop [0,1,7] (fun x n p=>∃ (X N P:Nat),x=.int .u8 X∧n=.int .i64 N∧p=.int .u8 P∧PowS m a n0 P X N) (fun _ n _=>(intOf n).toNat)
 case atStart=>exact ⟨a,n0,1,rfl,rfl,rfl,HS0.out⟩
 case round =>
  obtain ⟨X,N,P,rfl,rfl,rfl,hS⟩:=hrel
  have hp:=hS.hp
  have hx:=hS.hx
  have hn':=hS.hn
  rcases Nat.eq_zero_or_pos N with h0 | h0
  ·subst h0
   have HF:=hid hS.stop
   clear hS
   go_wp2_with fail
   go_ret
   exact ⟨ret_int (by have:=HF.out;omega),rfl⟩
  ·rcases Nat.mod_two_eq_zero_or_one N with hz | hz
   ·have HS2:=hid (hS.even HM.out hz)
    have hz1:((N:Int) % 2 == 1)=false:=by simp;omega
    have hz3:(N:Int) / 2=((N / 2:Nat):Int):=by omega
    have H3:=hid hz3
    clear hS hz hz3
    go_wp2_with fail
    refine (rmul_any X X m _ HM.out hx hx).mono ?_
    rintro e w' ⟨rfl,rfl⟩
    clear hz1
    go_wp2_with fail
    go_round
    case rel=>exact ⟨_,N / 2,_,rfl,by go_num,rfl,HS2.out⟩
    case measure=>simp [intOf];omega
   ·have HS2:=hid (hS.odd HM.out hz)
    have hz1:((N:Int) % 2 == 1)=true:=by simp;omega
    clear hS hz
    go_wp2_with fail
    refine (rmul_any P X m _ HM.out hp hx).mono ?_
    rintro e w' ⟨rfl,rfl⟩
    clear hz1
    go_wp2_with fail
    refine (rmul_any X X m _ HM.out hx hx).mono ?_
    rintro e w' ⟨rfl,rfl⟩
    go_wp2_with fail
    go_round
    case rel=>exact ⟨_,N / 2,_,rfl,by go_num,rfl,HS2.out⟩
    case measure=>simp [intOf];omega
end Go.Proofs.YtbgkmicelmenfaaGreatDoor.A
namespace Go.Proofs.YtbgkmicelmenfaaGreatDoor.A
open Go.RowKit
set_option maxRecDepth 100000
def parK (y:Nat):Nat→Nat
 | 0=>0
 | k+1=>(parK y k+y / 2 ^ k % 2) % 2
def par (y:Nat):Nat:=parK y 8
theorem parK_le (y:Nat):∀ k,parK y k≤1
 | 0=>by simp [parK]
 | k+1=>by rw [parK];omega
theorem par_le (y:Nat):par y≤1:=parK_le y 8
theorem par_half:∀ y < 256,par (y / 16) ^^^ par (y % 16)=par y:=by decide +kernel
def oddT:List Nat:=[0,1,1,0,1,0,0,1,1,0,0,1,0,1,1,0]
theorem oddT_par:∀ h < 16,oddT.getD h 0=par h:=by decide +kernel
theorem one_mul_xor {a b:Nat} (ha:a≤1) (hb:b≤1) (s:Nat):(a*s) ^^^ (b*s)=((a+b) % 2)*s:=by
 match a,b,ha,hb with
 | 0,0,_,_ | 0,1,_,_ | 1,0,_,_ | 1,1,_,_=>simp
theorem bit_lt {p k:Nat} (hp:p≤1) (hk:k < 8):p*2 ^ k < 256:=by
 have:=pow2_lt hk
 have h:=Nat.mul_le_mul_right (2 ^ k) hp
 omega
def affG (x:Nat) (rs:Nat→Nat) (c:Nat):Nat→Nat
 | 0=>c
 | k+1=>affG x rs c k ^^^ (par (x &&& rs k)*2 ^ k)
def affN (x:Nat) (rs:Nat→Nat) (c:Nat):Nat:=affG x rs c 8
theorem affG_lt {x c:Nat} {rs:Nat→Nat} (hc:c < 256):∀ k,k≤8→affG x rs c k < 256
 | 0,_=>hc
 | k+1,h=>xor_lt8 (affG_lt hc k (by omega)) (bit_lt (par_le _) (by omega))
theorem affN_lt {x c:Nat} {rs:Nat→Nat} (hc:c < 256):affN x rs c < 256:=affG_lt hc 8 (Nat.le_refl _)
def pwG (m:Nat):Nat→Nat→Nat→Nat→Nat
 | 0,p,_,_=>p
 | f+1,p,x,n=>if n=0 then p else pwG m f (if n % 2=1 then gm m p x else p) (gm m x x) (n / 2)
def pw (m x n:Nat):Nat:=pwG m 10 1 x n
theorem pwG_eq {m:Nat} (hm:IsRest m):∀ (f p x n:Nat),p < 256→x < 256→n < 2 ^ f→pwG m f p x n=gm m p (gp m x n)
 | 0,p,x,n,_,_,hn=>by
   obtain rfl:n=0:=by simpa using hn
   rw [pwG,show gp m x 0=1 from rfl,gm_one]
 | f+1,p,x,n,hp,hx,hn=>by
   rw [pwG]
   by_cases h0:n=0
   ·subst h0
    rw [if_pos rfl,show gp m x 0=1 from rfl,gm_one]
   ·rw [if_neg h0]
    have h2:n / 2 < 2 ^ f:=by rw [Nat.pow_succ] at hn;omega
    by_cases h1:n % 2=1
    ·rw [if_pos h1,pwG_eq hm f _ _ _ (gm_lt hm hp _) (gm_lt hm hx _) h2,gp_half_odd hm hp hx h1]
    ·rw [if_neg h1,pwG_eq hm f _ _ _ hp (gm_lt hm hx _) h2,← gp_half_even hm hx (by omega)]
theorem pw_eq {m x n:Nat} (hm:IsRest m) (hx:x < 256) (hn:n < 1024):pw m x n=gp m x n:=by
 unfold pw
 rw [pwG_eq hm 10 1 x n (by omega) hx hn,gm_one_left hm (gp_lt hm _)]
end Go.Proofs.YtbgkmicelmenfaaGreatDoor.A
namespace Go.Proofs.YtbgkmicelmenfaaGreatDoor.A
open Go.RowKit
set_option maxRecDepth 100000
def xorF (xs ys:List UInt8) (i:Nat):UInt8:=xs.getD i 0 ^^^ ys.getD i 0
def xorL (xs ys:List UInt8) (n:Nat):List UInt8:=(List.range n).map (xorF xs ys)
theorem xorF_val (xs ys:List UInt8) (k:Nat):((xorF xs ys k).toNat:Int)=bits .xor .u8 (byteAt xs k) (byteAt ys k):=by
 unfold xorF byteAt
 rw [UInt8.toNat_xor,u8_xor_nat _ _ (UInt8.toNat_lt _) (UInt8.toNat_lt _)]
set_option maxHeartbeats 400000 in
theorem xor_eq (A A':Option Addr) (n c c':Nat) (xs ys:List UInt8) (w:World) (h:Rd w w.heap.size A n xs) (h':Rd w w.heap.size A' n ys) (hn:n≤140737488355328) :
  Calls Tryz.prog 96 #[.slice A n c,.slice A' n c'] w fun e w'=>∃ v,e=.returned (.tuple #[v,.bool true])∧Own w' w.heap.size v (xorL xs ys n)∧Below w.heap.size w w':=by
 go_enter Tryz.func96,Tryz.ntmps96
 go_wp2_with (at_make;refine wpL_make rfl (.tmp 15) (.tmp 15) 22 rfl Tryz.underlying22 Tryz.info5 .i64 n n rfl rfl rfl (by omega) w.heap.size (Nat.le_refl _) ?_;intro w1 hown1 hb1 _)
 go_loopw [19] (fun i wr=>∃ k:Nat,k≤n∧i=.int .i64 k∧Own wr w.heap.size (.slice (some ⟨w.heap.size,0,none⟩) n n) (fillTo (xorF xs ys) n k)∧Below w.heap.size w wr) (fun i _=>n - (intOf i).toNat)
 case atStart=>exact ⟨0,Nat.zero_le _,rfl,by rw [fillTo_zero];exact hown1,hb1⟩
 case round =>
  obtain ⟨k,hk,rfl,hown,hb⟩:=hrel
  by_cases hlt:k < n
  ·obtain ⟨b1,o1,rfl,hb1',hc1⟩:=(h.below hb (Nat.le_refl _)).at_ (by omega)
   obtain ⟨b2,o2,rfl,hb2',hc2⟩:=(h'.below hb (Nat.le_refl _)).at_ (by omega)
   have hck1:=hc1 k hlt
   have hck2:=hc2 k hlt
   have r1:=byteAt_lo xs k;have r2:=byteAt_hi xs k;have r3:=byteAt_lo ys k;have r4:=byteAt_hi ys k
   obtain ⟨cur,hcur⟩:∃ cur,fillTo (xorF xs ys) n k=cur:=⟨_,rfl⟩
   have hcl:cur.length=n:=by rw [← hcur];exact fillTo_length _ _ _
   rw [hcur] at hown
   have hown0:Own wr w.heap.size (.slice (some ⟨w.heap.size,0,none⟩) cur.length n) cur:=by rw [hcl];exact hown
   have hcell:=hown0.cell k (by omega)
   have hfree:=hown0.free k
   have hset:=hown0.set_ k (xorF xs ys k)
   rw [← hcur,fillTo_set _ _ _ _ rfl,fillTo_length] at hset
   rw [xorF_val] at hset
   have HH:=hid hset
   have HB:=hid hb
   clear hset hown0 hown hb hcl hcur hown1 hb1 h h' hc1 hc2
   go_wp2
   go_roundw
   case rel=>exact ⟨k+1,by omega,by go_num,HH.out,HB.out.setCell (by simp) _⟩
   case measure=>simp [intOf];omega
  ·obtain rfl:k=n:=by omega
   have HH:=hid (And.intro hown hb)
   clear hown hb hown1 hb1
   go_wp2
   go_ret2
   exact ⟨_,rfl,by have:=HH.out.1;rw [fillTo_full] at this;exact this,HH.out.2⟩
set_option maxHeartbeats 400000 in
theorem both_any (A A':Option Addr) (n c c':Nat) (xs ys:List UInt8) (w:World) (h:Rd w w.heap.size A n xs) (h':Rd w w.heap.size A' n ys) (hn:n≤140737488355328) :
  Calls Tryz.prog 137 #[.slice A n c,.slice A' n c'] w (RetB w (xorL xs ys n)):=by
 go_enter Tryz.func137,Tryz.ntmps137
 go_wp2_with (at_make;refine wpL_make rfl (.tmp 8) (.tmp 8) 22 rfl Tryz.underlying22 Tryz.info5 .i64 n n rfl rfl rfl (by omega) w.heap.size (Nat.le_refl _) ?_;intro w1 hown1 hb1 _)
 go_loopw [6] (fun i wr=>∃ k:Nat,k≤n∧i=.int .i64 k∧Own wr w.heap.size (.slice (some ⟨w.heap.size,0,none⟩) n n) (fillTo (xorF xs ys) n k)∧Below w.heap.size w wr) (fun i _=>n - (intOf i).toNat)
 case atStart=>exact ⟨0,Nat.zero_le _,rfl,by rw [fillTo_zero];exact hown1,hb1⟩
 case round =>
  obtain ⟨k,hk,rfl,hown,hb⟩:=hrel
  by_cases hlt:k < n
  ·obtain ⟨b1,o1,rfl,hb1',hc1⟩:=(h.below hb (Nat.le_refl _)).at_ (by omega)
   obtain ⟨b2,o2,rfl,hb2',hc2⟩:=(h'.below hb (Nat.le_refl _)).at_ (by omega)
   have hck1:=hc1 k hlt
   have hck2:=hc2 k hlt
   have r1:=byteAt_lo xs k;have r2:=byteAt_hi xs k;have r3:=byteAt_lo ys k;have r4:=byteAt_hi ys k
   obtain ⟨cur,hcur⟩:∃ cur,fillTo (xorF xs ys) n k=cur:=⟨_,rfl⟩
   have hcl:cur.length=n:=by rw [← hcur];exact fillTo_length _ _ _
   rw [hcur] at hown
   have hown0:Own wr w.heap.size (.slice (some ⟨w.heap.size,0,none⟩) cur.length n) cur:=by rw [hcl];exact hown
   have hcell:=hown0.cell k (by omega)
   have hfree:=hown0.free k
   have hset:=hown0.set_ k (xorF xs ys k)
   rw [← hcur,fillTo_set _ _ _ _ rfl,fillTo_length] at hset
   rw [xorF_val] at hset
   have HH:=hid hset
   have HB:=hid hb
   clear hset hown0 hown hb hcl hcur hown1 hb1 h h' hc1 hc2
   go_wp2
   go_region
   go_wp2
   go_roundw
   case rel=>exact ⟨k+1,by omega,by go_num,HH.out,(HB.out.setCell (by simp) _).drew⟩
   case measure=>simp [intOf];omega
  ·obtain rfl:k=n:=by omega
   have HH:=hid (And.intro hown hb)
   clear hown hb hown1 hb1
   go_wp2
   go_ret
   exact ⟨_,rfl,by have:=HH.out.1;rw [fillTo_full] at this;exact this,HH.out.2⟩
set_option maxHeartbeats 400000 in
theorem spread_any (v:Int) (n:Nat)  (w:World) (hn:n≤8) :
  Calls Tryz.prog 169 #[.int .u64 v,.int .i64 n] w (RetB w (spreadL v n)):=by
 go_enter Tryz.func169,Tryz.ntmps169
 go_wp2_with (at_make;refine wpL_make rfl (.tmp 7) (.tmp 7) 22 rfl Tryz.underlying22 Tryz.info5 .i64 n n rfl rfl rfl (by omega) w.heap.size (Nat.le_refl _) ?_;intro w1 hown1 hb1 _)
 go_loopw [11] (fun i wr=>∃ k:Nat,k≤n∧i=.int .i64 k∧Own wr w.heap.size (.slice (some ⟨w.heap.size,0,none⟩) n n) (fillTo (spreadF v n) n k)∧Below w.heap.size w wr) (fun i _=>n - (intOf i).toNat)
 case atStart=>exact ⟨0,Nat.zero_le _,rfl,by rw [fillTo_zero];exact hown1,hb1⟩
 case round =>
  obtain ⟨k,hk,rfl,hown,hb⟩:=hrel
  by_cases hlt:k < n
  ·obtain ⟨cur,hcur⟩:∃ cur,fillTo (spreadF v n) n k=cur:=⟨_,rfl⟩
   have hcl:cur.length=n:=by rw [← hcur];exact fillTo_length _ _ _
   rw [hcur] at hown
   have hown0:Own wr w.heap.size (.slice (some ⟨w.heap.size,0,none⟩) cur.length n) cur:=by rw [hcl];exact hown
   have hcell:=hown0.cell k (by omega)
   have hfree:=hown0.free k
   have hset:=hown0.set_ k (spreadF v n k)
   rw [← hcur,fillTo_set _ _ _ _ rfl,fillTo_length] at hset
   have hval:((spreadF v n k).toNat:Int)=v / 2 ^ (8*(n - 1 - k)) % 256:=by unfold spreadF;exact u8_toNat _
   rw [hval] at hset
   have HH:=hid hset
   have HB:=hid hb
   clear hset hval hown0 hown hb hcl hcur hown1 hb1
   go_wp2
   go_roundw
   case rel=>exact ⟨k+1,by omega,by go_num,HH.out,HB.out.setCell (by simp) _⟩
   case measure=>simp [intOf];omega
  ·obtain rfl:k=n:=by omega
   have HH:=hid (And.intro hown hb)
   clear hown hb hown1 hb1
   go_wp2
   go_ret
   exact ⟨_,rfl,by have:=HH.out.1;rw [fillTo_full] at this;exact this,HH.out.2⟩
set_option maxHeartbeats 400000 in
theorem putBe64_any (v:Int) (w:World) :
  Calls Tryz.prog 208 #[.int .u64 v] w (RetB w (spreadL v 8)):=by
 go_enter Tryz.func208,Tryz.ntmps208
 go_wp2_with (go_at_call 169;refine (spread_any _ 8 _ (by omega)).mono ?_;rintro e w' ⟨x,rfl,hx,hb⟩)
 go_ret
 exact ⟨_,rfl,hx,hb⟩
set_option maxHeartbeats 400000 in
theorem rput32_any (v:Int) (w:World) :
  Calls Tryz.prog 152 #[.int .u32 v] w (RetB w (put32 v)):=by
 go_enter Tryz.func152,Tryz.ntmps152
 go_wp2
 go_ret
 refine ⟨_,rfl,?_,(Below.refl _ _).alloc (Nat.le_refl _) _⟩
 exact Own.lit w (put32 v) _ 4 w.heap.size (by simp [put32,cellsOf,u8_toNat]) rfl (by unfold maxLen;omega) (Nat.le_refl _)
set_option maxHeartbeats 400000 in
theorem rput64_any (v:Int) (w:World) :
  Calls Tryz.prog 185 #[.int .u64 v] w (RetB w (spreadL v 8)):=by
 go_enter Tryz.func185,Tryz.ntmps185
 go_wp2_with fail
 refine (rput32_any _ _).mono ?_
 rintro e w1 ⟨x,rfl,hx,hb⟩
 go_wp2_with fail
 refine (rput32_any _ _).mono ?_
 rintro e w2 ⟨y,rfl,hy,hb2⟩
 have hx2:=hx.kept hb2
 obtain ⟨A,c,rfl,hrd,_,_⟩:=hy.rd
 have hsz:=hb.size
 have hsz2:=hb2.size
 go_wp2_with (at_builtin;refine wpL_append _ rfl (.tmp 6) (.tmp 9) 22 rfl Tryz.underlying22 Tryz.info5 w.heap.size x _ rfl hx2 _ A _ c _ rfl hrd (by simp [put32]) (by omega) ?_;intro v3 w3 hown3 hb3)
 go_ret
 refine ⟨_,rfl,?_,((hb.trans (hb2.mono hsz)).trans hb3)⟩
 rw [spread8]
 have e:put32 (v / 4294967296)=put32 (v / 4294967296 % 4294967296):=by
  simp only [put32]
  congr 1
  ·apply u8_congr;omega
  congr 1
  ·apply u8_congr;omega
  congr 1
  ·apply u8_congr;omega
  congr 1
  apply u8_congr;omega
 rw [e]
 exact hown3
end Go.Proofs.YtbgkmicelmenfaaGreatDoor.A
namespace Go.Proofs.YtbgkmicelmenfaaGreatDoor.A
open Go.RowKit
set_option maxRecDepth 100000
theorem size33:(Tryz.prog.info? 194).map (·.size)=some 8:=by kernel_rfl
theorem size33' {bs:List UInt8} (h:bs.length=8):(Tryz.prog.info? 194).map (·.size)=some (cellsOf bs).toArray.size:=by rw [size33];simp [cellsOf,h]
theorem run_index33 (w:World) (bs:List UInt8) (k:Nat) (h:bs.length=8) (hk:k < 8) :
  (Instr.index 194 (.agg (cellsOf bs).toArray) (.int .i64 k)).run Tryz.prog w=.ok (.int .u8 (nb bs k:Nat)) w:=by
 have hc:(cellsOf bs)[k]? = some (.int .u8 (byteAt bs k)):=cellsOf_get bs k (by omega)
 simp only [Instr.index,asIntOf,Sem.run_bind,Sem.run_pure,Result.andThen_ok,run_underlying Tryz.underlying194]
 rw [if_pos ⟨by omega,by omega⟩]
 simp [part,hc,byteAt_nb]
def Odd (w:World):Prop:=∀ j,j < 16→w.cell? ⟨7,j,none⟩=some (.int .u8 (oddT.getD j 0:Nat))
theorem Odd.later {w w':World} (h:Odd w) (hx:Ext w w'):Odd w':=fun j hj =>
 (Below.cell hx (p:=⟨7,j,none⟩) (World.block_lt_of_cell? w _ (h j hj))).trans (h j hj)
theorem u8_and_i (a b:Nat) (ha:a < 256) (hb:b < 256):bits .and .u8 (a:Int) (b:Int)=((a &&& b:Nat):Int):=u8_and_nat a b ha hb
theorem and_lt8 {a b:Nat} (ha:a < 256):a &&& b < 256:=Nat.lt_of_le_of_lt Nat.and_le_left ha
set_option maxHeartbeats 1000000 in
theorem aff_any (x c:Nat) (bs:List UInt8) (w:World) (hb:bs.length=8) (hx:x < 256) (hc:c < 256) (ho:Odd w) :
  Calls Tryz.prog 170 #[.int .u8 x,.agg (cellsOf bs).toArray,.int .u8 c] w fun e w'=>e=.returned (.int .u8 (affN x (nb bs) c:Nat))∧Ext w w':=by
 go_enter Tryz.func170,Tryz.ntmps170
 go_wp2_with (refine wpList_load_row rfl 194 (.tmp 4) rfl w.heap.size rfl 194 (cellsOf bs).toArray (0,0) _ (heap_alloc_new w _) Tryz.underlying194 rfl (size33' hb) ?_)
 go_loopw [2,11] (fun v i wr=>∃ k:Nat,k≤8∧i=.int .i64 k∧v=.int .u8 (affG x (nb bs) c k:Nat)∧Ext w wr) (fun _ i _=>8 - (intOf i).toNat)
 case atStart=>exact ⟨0,Nat.zero_le _,rfl,rfl,Ext.alloc _ _⟩
 case round =>
  obtain ⟨k,hk,rfl,rfl,hxt⟩:=hrel
  have HX:=hid hxt
  by_cases hlt:k < 8
  ·have hR:=nb_lt bs k
   have hA:=affG_lt (x:=x) (rs:=nb bs) hc k hk
   obtain ⟨R,hRe⟩:∃ R,nb bs k=R:=⟨_,rfl⟩
   obtain ⟨B,hB⟩:∃ B,x &&& R=B:=⟨_,rfl⟩
   have hBl:B < 256:=by rw [← hB];exact and_lt8 hx
   have hand:=u8_and_i x R hx (by omega)
   rw [hB] at hand
   have hS:affG x (nb bs) c (k+1)=affG x (nb bs) c k ^^^ (par B*2 ^ k):=by rw [affG,hRe,hB]
   obtain ⟨C,hC⟩:∃ C,affG x (nb bs) c k=C:=⟨_,rfl⟩
   rw [hC] at hA hS ⊢
   have h1:=(ho.later hxt) (B / 16) (by omega)
   have h2:=(ho.later hxt) (B % 16) (by omega)
   rw [oddT_par _ (by omega)] at h1 h2
   have hp1:=par_le (B / 16)
   have hp2:=par_le (B % 16)
   have hph:=par_half B hBl
   have hp3:=par_le B
   have hbl:=bit_lt hp3 hlt
   obtain ⟨p1,hp1e⟩:∃ p,par (B / 16)=p:=⟨_,rfl⟩
   obtain ⟨p2,hp2e⟩:∃ p,par (B % 16)=p:=⟨_,rfl⟩
   obtain ⟨p,hpe⟩:∃ p,par B=p:=⟨_,rfl⟩
   rw [hp1e] at h1 hp1 hph
   rw [hp2e] at h2 hp2 hph
   rw [hpe] at hph hp3 hbl hS
   have hx1:=u8_xor_nat p1 p2 (by omega) (by omega)
   rw [hph] at hx1
   have hx2:=u8_xor_nat C (p*2 ^ k) hA hbl
   rw [← hS] at hx2
   have hm:bits .and .u8 (B:Int) 15=((B % 16:Nat):Int):=by
    rw [show (15:Int)=((15:Nat):Int) from rfl,u8_and_nat _ _ hBl (by omega)]
    rw [show (15:Nat)=2 ^ 4 - 1 from rfl,Nat.and_two_pow_sub_one_eq_mod]
   have hpk:((p*2 ^ k:Nat):Int)=(p:Int)*2 ^ k:=by push_cast;rfl
   have hsh:(p:Int)*2 ^ k % 256=((p*2 ^ k:Nat):Int):=by rw [← hpk];omega
   rw [hpk] at hx2
   have HX2:=hid hx2
   have HRE:=hid hRe
   clear hC hS hRe hB hp1e hp2e hpe hph hxt ho hx2 hpk
   go_wp2_with fail
   rw [run_index33 _ _ _ hb hlt]
   simp only [Result.andThen]
   rw [Oper.upon_value]
   rw [HRE.out]
   go_wp2_with fail
   go_quiet (fail)
   go_wp2_with fail
   go_roundw
   case rel=>exact ⟨k+1,by omega,by go_num,by rw [HX2.out],below_drewN' HX.out nq⟩
   case measure=>simp [intOf];omega
  ·obtain rfl:k=8:=by omega
   clear hxt ho
   have hl:=affG_lt (x:=x) (rs:=nb bs) hc 8 hk
   go_wp2_with fail
   go_ret
   exact ⟨rfl,HX.out⟩
def Arr8 (w:World) (G:Nat) (bs:List UInt8):Prop:=w.heap[G]? = some (.cells (cellsOf bs).toArray 194 (0,0))
theorem Arr8.lt {w:World} {G:Nat} {bs:List UInt8} (h:Arr8 w G bs):G < w.heap.size:=(Array.getElem?_eq_some_iff.1 h).1
theorem Arr8.later {w w':World} {G:Nat} {bs:List UInt8} (h:Arr8 w G bs) (hx:Ext w w'):Arr8 w' G bs:=(hx.block G h.lt).trans h
theorem Arr8.cell {w:World} {G:Nat} {bs:List UInt8} (h:Arr8 w G bs) (k:Nat) (hk:k < bs.length):w.cell? ⟨G,k,none⟩=some (.int .u8 (nb bs k:Nat)):=by
 rw [cell_of_row w G k _ _ _ h]
 simpa [byteAt_nb] using cellsOf_get bs k hk
theorem inner_step {C p b i:Nat} (hp:p≤1) (hb:b≤1):(C ^^^ (p*2 ^ i)) ^^^ (b*2 ^ i)=C ^^^ (((p+b) % 2)*2 ^ i):=by
 rw [Nat.xor_assoc,one_mul_xor hp hb]
set_option maxHeartbeats 1000000 in
theorem raff_any (x c:Nat) (bs:List UInt8) (w:World) (hb:bs.length=8) (hx:x < 256) (hc:c < 256) :
  Calls Tryz.prog 182 #[.int .u8 x,.agg (cellsOf bs).toArray,.int .u8 c] w fun e w'=>e=.returned (.int .u8 (affN x (nb bs) c:Nat))∧Ext w w':=by
 have hA0:Arr8 (w.alloc (.cells (cellsOf bs).toArray 194)) w.heap.size bs:=heap_alloc_new w _
 have hE0:=Ext.alloc w (.cells (cellsOf bs).toArray 194)
 go_enter Tryz.func182,Tryz.ntmps182
 go_wp2_with fail
 obtain ⟨W1,hW1⟩:∃ W1,w.alloc (.cells (cellsOf bs).toArray 194)=W1:=⟨_,rfl⟩
 rw [hW1] at hA0 hE0 ⊢
 obtain ⟨G,hG⟩:∃ G,w.heap.size=G:=⟨_,rfl⟩
 rw [hG] at hA0 ⊢
 have HE:=hid hE0
 clear hW1 hE0 hG
 go_loop [2,7] (fun v i=>∃ k:Nat,k≤8∧i=.int .i64 k∧v=.int .u8 (affG x (nb bs) c k:Nat)) (fun _ i=>8 - (intOf i).toNat)
 case atStart=>exact ⟨0,Nat.zero_le _,rfl,rfl⟩
 case round =>
  obtain ⟨k,hk,rfl,rfl⟩:=hrel
  by_cases hlt:k < 8
  ·have hcell:=hA0.cell k (by omega)
   have hR:=nb_lt bs k
   have hA:=affG_lt (x:=x) (rs:=nb bs) hc k hk
   have hS:affG x (nb bs) c (k+1)=affG x (nb bs) c k ^^^ (par (x &&& nb bs k)*2 ^ k):=rfl
   obtain ⟨R,hRe⟩:∃ R,nb bs k=R:=⟨_,rfl⟩
   obtain ⟨B,hB⟩:∃ B,x &&& R=B:=⟨_,rfl⟩
   have hBl:B < 256:=by rw [← hB];exact and_lt8 hx
   have hand:=u8_and_i R x (by omega) hx
   rw [Nat.and_comm,hB] at hand
   rw [hRe,hB] at hS
   rw [hRe] at hcell hR
   obtain ⟨C,hC⟩:∃ C,affG x (nb bs) c k=C:=⟨_,rfl⟩
   rw [hC] at hA hS ⊢
   have HS:=hid hS
   clear hS hC hB hRe
   go_wp2_with fail
   clear hcell hand
   go_loop [2,9] (fun v i=>∃ j:Nat,j≤8∧i=.int .u64 j∧v=.int .u8 (C ^^^ (parK B j*2 ^ k):Nat)) (fun _ i=>8 - (intOf i).toNat)
   case atStart=>exact ⟨0,Nat.zero_le _,rfl,by simp [parK]⟩
   case round =>
    obtain ⟨j,hj,rfl,rfl⟩:=hrel
    by_cases hjt:j < 8
    ·have hp:=parK_le B j
     have hb1:B / 2 ^ j % 2≤1:=by omega
     have hst:=inner_step (C:=C) (i:=k) hp hb1
     have hl1:=xor_lt8 hA (bit_lt hp hlt)
     have hl2:=bit_lt hb1 hlt
     have hm:=u8_and_one (B / 2 ^ j) (Nat.lt_of_le_of_lt (Nat.div_le_self _ _) hBl)
     obtain ⟨b,hbe⟩:∃ b,B / 2 ^ j % 2=b:=⟨_,rfl⟩
     rw [hbe] at hm hst hb1 hl2
     have hK:parK B (j+1)=(parK B j+b) % 2:=by rw [parK,hbe]
     obtain ⟨Y,hY⟩:∃ Y,C ^^^ (parK B j*2 ^ k)=Y:=⟨_,rfl⟩
     rw [hY] at hst hl1 ⊢
     rw [← hK] at hst
     have hx2:=u8_xor_nat Y (b*2 ^ k) hl1 hl2
     have hpk:((b*2 ^ k:Nat):Int)=(b:Int)*2 ^ k:=by push_cast;rfl
     have hsh:(b:Int)*2 ^ k % 256=(b:Int)*2 ^ k:=by rw [← hpk];omega
     have hdv:((B / 2 ^ j:Nat):Int)=(B:Int) / 2 ^ j:=by simp
     rw [hdv] at hm
     rw [hst,hpk] at hx2
     have HX2:=hid hx2
     clear hY hK hbe hst hx2 hpk hdv
     go_wp2_with fail
     go_round
     case rel=>exact ⟨j+1,by omega,by go_num,by rw [HX2.out]⟩
     case measure=>simp [intOf];omega
    ·obtain rfl:j=8:=by omega
     have hB2:=xor_lt8 hA (bit_lt (par_le B) hlt)
     go_wp2_with fail
     go_round
     case rel=>exact ⟨k+1,by omega,by go_num,by rw [HS.out];rfl⟩
     case measure=>simp [intOf];omega
  ·obtain rfl:k=8:=by omega
   have hl:=affG_lt (x:=x) (rs:=nb bs) hc 8 hk
   go_wp2_with fail
   go_ret
   exact ⟨rfl,HE.out⟩
theorem below_setRow {B g:Nat} {a w:World} (h:Below B a w) (hg:B≤g) (cs:Array Value):Below B a (w.setRow g cs) :=
 ⟨h.os,h.tape,h.output,by rw [setRow_size];exact h.size,fun i hi=>(setRow_other w g i cs (by omega)).trans (h.block i hi)⟩
theorem cells_all (bs:List UInt8):(cellsOf bs).toArray.all (·.oneCell')=true:=by
 rw [Array.all_eq_true_iff_forall_mem]
 intro v hv
 exact cellsOf_one bs v (by simpa using hv)
theorem ret_cell {fn:Func} {R:Ending→World→Prop} {a:Act} {w:World} {p:Tmp} {ty e:TypeId} {N:Nat} (hres:fn.results=#[.cell p ty]) (hd:a.defers = []) (g:Nat) (t:TypeId) (cs:Array Value) (fr:Nat×Nat)
  (hp:a.tmps.getD p undef=.pointer (some ⟨g,0,none⟩)) (hg:w.heap[g]? = some (.cells cs t fr)) (hu:Tryz.prog.underlying ty=some (.array N e))
  (hi:(Tryz.prog.info? ty).map (·.size)=some cs.size) (h:R (.returned (.agg cs)) w) :
  bodyPost Tryz.prog fn R .ret a w:=bodyPost_ret (results_cell_row hres _ _ g t cs fr _ hp hg hu rfl hi) hd h
end Go.Proofs.YtbgkmicelmenfaaGreatDoor.A
namespace Go.Proofs.YtbgkmicelmenfaaGreatDoor.A
open Go.RowKit
set_option maxRecDepth 100000
theorem zc98:Tryz.zeroCells256 = Array.replicate 256 (.bool false):=by kernel_rfl
theorem size48:(Tryz.prog.info? 256).map (·.size)=some 256:=by kernel_rfl
def cB (l:List Bool):List Value:=l.map Value.bool
theorem cB_get (l:List Bool) (j:Nat) (h:j < l.length):(cB l)[j]? = some (.bool (l.getD j false)):=by simp [cB,h]
theorem cB_set (l:List Bool) (k:Nat) (b:Bool):(cB l).toArray.setIfInBounds k (.bool b)=(cB (l.set k b)).toArray:=by simp [cB,List.map_set]
theorem cB_all (l:List Bool):(cB l).toArray.all (·.oneCell')=true:=by
 rw [Array.all_eq_true_iff_forall_mem]
 intro v hv
 simp only [cB,List.mem_toArray,List.mem_map] at hv
 obtain ⟨b,_,rfl⟩:=hv
 rfl
theorem cB_zero:(cB (List.replicate 256 false)).toArray=Array.replicate 256 (.bool false):=by
 apply Array.toList_inj.1
 rw [cB,List.map_replicate,Array.toList_replicate]
def Set8 (w:World) (G:Nat) (l:List Bool):Prop:=w.heap[G]? = some (.cells (cB l).toArray 256 (0,0))
theorem Set8.lt {w:World} {G:Nat} {l:List Bool} (h:Set8 w G l):G < w.heap.size:=(Array.getElem?_eq_some_iff.1 h).1
theorem Set8.later {w w':World} {G:Nat} {l:List Bool} (h:Set8 w G l) (hx:Ext w w'):Set8 w' G l:=(hx.block G h.lt).trans h
theorem Set8.cell {w:World} {G:Nat} {l:List Bool} (h:Set8 w G l) (k:Nat) (hk:k < l.length):w.cell? ⟨G,k,none⟩=some (.bool (l.getD k false)):=by
 rw [cell_of_row w G k _ _ _ h]
 simpa using cB_get l k hk
theorem size48' {l:List Bool} (h:l.length=256):(Tryz.prog.info? 256).map (·.size)=some (cB l).toArray.size:=by rw [size48];simp [cB,h]
theorem Set8.new (w:World):Set8 (w.alloc (.cells (Array.replicate 256 (.bool false)) 256)) w.heap.size (List.replicate 256 false):=by
 unfold Set8;rw [cB_zero];exact heap_alloc_new w _
set_option maxHeartbeats 1000000 in
theorem setOf_any (A:Option Addr) (n c:Nat) (bs:List UInt8) (w:World) (h:Rd w w.heap.size A n bs) (hn:n≤140737488355328) :
  Calls Tryz.prog 206 #[.slice A n c] w fun e w'=>e=.returned (.agg (cB (setG (nb bs) n)).toArray)∧Ext w w':=by
 have hl:=h.len
 go_enter Tryz.func206,Tryz.ntmps206
 go_wp2_with fail
 rw [zc98]
 have h1:=Set8.new w
 have x1:=Ext.alloc w (.cells (Array.replicate 256 (.bool false)) 256)
 obtain ⟨W1,hW1⟩:∃ W1,w.alloc (.cells (Array.replicate 256 (.bool false)) 256)=W1:=⟨_,rfl⟩
 rw [hW1] at h1 x1 ⊢
 have hz1:W1.heap.size=w.heap.size+1:=by rw [← hW1];simp
 clear hW1
 have h2:=Set8.new W1
 have x2:=Ext.alloc W1 (.cells (Array.replicate 256 (.bool false)) 256)
 obtain ⟨W2,hW2⟩:∃ W2,W1.alloc (.cells (Array.replicate 256 (.bool false)) 256)=W2:=⟨_,rfl⟩
 rw [hW2] at h2 x2 ⊢
 rw [hz1] at h2
 obtain ⟨G,hG⟩:∃ G,w.heap.size=G:=⟨_,rfl⟩
 rw [hG] at h1 h2 ⊢
 have HH:=hid (show Set8 W2 G (setG (nb bs) 0)∧Set8 W2 (G+1) (setG (nb bs) 0)∧Ext w W2 from ⟨h1.later x2,h2,x1.trans x2⟩)
 have HG:=hid hG
 clear hW2 h1 h2 x1 x2 hG hz1
 go_wp2_with fail
 go_loopw [8] (fun i wr=>∃ k:Nat,k≤n∧i=.int .i64 k∧Set8 wr G (setG (nb bs) 0)∧Set8 wr (G+1) (setG (nb bs) k)∧Ext w wr) (fun i _=>n - (intOf i).toNat)
 case atStart=>exact ⟨0,by omega,rfl,HH.out⟩
 case round =>
  obtain ⟨k,hk,rfl,ha1,ha2,hx⟩:=hrel
  clear HH
  by_cases hlt:k < n
  ·obtain ⟨b1,o1,rfl,hb1',hc1⟩:=(h.below hx (Nat.le_refl _)).at_ (by omega)
   have hck:=hc1 k hlt
   rw [byteAt_nb] at hck
   have hbl:=nb_lt bs k
   have hS:setG (nb bs) (k+1)=(setG (nb bs) k).set (nb bs k) true:=rfl
   obtain ⟨p,hp⟩:∃ p,nb bs k=p:=⟨_,rfl⟩
   rw [hp] at hck hbl hS
   have hfr:=frozen_of_row wr (G+1) p _ 256 ha2
   have hold:=ha2.cell p (by rw [setG_length];exact hbl)
   have hset:=heap_setCell_same wr (G+1) p _ 256 (.bool true) ha2
   rw [cB_set,← hS] at hset
   have HS:=hid (show Set8 (wr.setCell ⟨G+1,p,none⟩ (.bool true)) (G+1) (setG (nb bs) (k+1)) from hset)
   have hset1:=heap_setCell_other wr ⟨G+1,p,none⟩ G (.bool true) (by simp)
   have HS1:=hid (show Set8 (wr.setCell ⟨G+1,p,none⟩ (.bool true)) G (setG (nb bs) 0) from hset1.trans ha1)
   have HX:=hid (Below.setCell hx (p:=⟨G+1,p,none⟩) (by have:=HG.out;simp;omega) (.bool true))
   clear hc1 ha1 ha2 hx hset hset1 hp hS
   go_wp2_with fail
   go_roundw
   case rel=>exact ⟨k+1,by omega,by go_num,HS1.out,HS.out,HX.out⟩
   case measure=>simp [intOf];omega
  ·obtain rfl:k=n:=by omega
   have HA1:=hid ha1
   have HA2:=hid ha2
   have hsz:(Tryz.prog.info? 256).map (·.size)=some (cB (setG (nb bs) k)).toArray.size:=size48' (setG_length _ k)
   have hss:(cB (setG (nb bs) 0)).toArray.size=(cB (setG (nb bs) k)).toArray.size:=by simp [cB,setG_length]
   have HSR:=hid (setRow_heap wr G _ (cB (setG (nb bs) k)).toArray 256 (0,0) ha1)
   have HXR:=hid (below_setRow hx (g:=G) (by have:=HG.out;omega) (cB (setG (nb bs) k)).toArray)
   have HSZ:=hid (And.intro hsz hss)
   clear ha1 ha2 hx hsz hss
   go_wp2_with (first
    | (refine wpList_load_row rfl 256 (.tmp 3) rfl (G+1) rfl 256 (cB (setG (nb bs) k)).toArray (0,0) _ HA2.out Tryz.underlying256 rfl HSZ.out.1 ?_)
    | (refine wpList_store_row rfl 256 (.tmp 2) (.tmp 15) rfl G (cB (setG (nb bs) k)).toArray rfl rfl 256 _ HA1.out HSZ.out.1 HSZ.out.2 (cB_all _) ?_))
   refine ret_cell rfl rfl G 256 _ (0,0) rfl HSR.out Tryz.underlying256 HSZ.out.1 ⟨rfl,HXR.out⟩
set_option maxHeartbeats 1000000 in
theorem firstOnes_any (n:Nat) (w:World) (hn:n≤256) :
  Calls Tryz.prog 207 #[.int .i64 n] w fun e w'=>e=.returned (.agg (cB (setG (fun i=>i) n)).toArray)∧Ext w w':=by
 go_enter Tryz.func207,Tryz.ntmps207
 go_wp2_with fail
 rw [zc98]
 have h1:=Set8.new w
 have x1:=Ext.alloc w (.cells (Array.replicate 256 (.bool false)) 256)
 obtain ⟨W1,hW1⟩:∃ W1,w.alloc (.cells (Array.replicate 256 (.bool false)) 256)=W1:=⟨_,rfl⟩
 rw [hW1] at h1 x1 ⊢
 have hz1:W1.heap.size=w.heap.size+1:=by rw [← hW1];simp
 clear hW1
 have h2:=Set8.new W1
 have x2:=Ext.alloc W1 (.cells (Array.replicate 256 (.bool false)) 256)
 obtain ⟨W2,hW2⟩:∃ W2,W1.alloc (.cells (Array.replicate 256 (.bool false)) 256)=W2:=⟨_,rfl⟩
 rw [hW2] at h2 x2 ⊢
 rw [hz1] at h2
 obtain ⟨G,hG⟩:∃ G,w.heap.size=G:=⟨_,rfl⟩
 rw [hG] at h1 h2 ⊢
 have HH:=hid (show Set8 W2 G (setG (fun i=>i) 0)∧Set8 W2 (G+1) (setG (fun i=>i) 0)∧Ext w W2 from ⟨h1.later x2,h2,x1.trans x2⟩)
 have HG:=hid hG
 clear hW2 h1 h2 x1 x2 hG hz1
 go_wp2_with fail
 go_loopw [6] (fun i wr=>∃ k:Nat,k≤n∧i=.int .i64 k∧Set8 wr G (setG (fun i=>i) 0)∧Set8 wr (G+1) (setG (fun i=>i) k)∧Ext w wr) (fun i _=>n - (intOf i).toNat)
 case atStart=>exact ⟨0,by omega,rfl,HH.out⟩
 case round =>
  obtain ⟨k,hk,rfl,ha1,ha2,hx⟩:=hrel
  clear HH
  by_cases hlt:k < n
  ·have hbl:k < 256:=by omega
   have hS:setG (fun i=>i) (k+1)=(setG (fun i=>i) k).set k true:=rfl
   have hfr:=frozen_of_row wr (G+1) k _ 256 ha2
   have hold:=ha2.cell k (by rw [setG_length];exact hbl)
   have hset:=heap_setCell_same wr (G+1) k _ 256 (.bool true) ha2
   rw [cB_set,← hS] at hset
   have HS:=hid (show Set8 (wr.setCell ⟨G+1,k,none⟩ (.bool true)) (G+1) (setG (fun i=>i) (k+1)) from hset)
   have hset1:=heap_setCell_other wr ⟨G+1,k,none⟩ G (.bool true) (by simp)
   have HS1:=hid (show Set8 (wr.setCell ⟨G+1,k,none⟩ (.bool true)) G (setG (fun i=>i) 0) from hset1.trans ha1)
   have HX:=hid (Below.setCell hx (p:=⟨G+1,k,none⟩) (by have:=HG.out;simp;omega) (.bool true))
   clear ha1 ha2 hx hset hset1 hS
   go_wp2_with fail
   go_roundw
   case rel=>exact ⟨k+1,by omega,by go_num,HS1.out,HS.out,HX.out⟩
   case measure=>simp [intOf];omega
  ·obtain rfl:k=n:=by omega
   have HA1:=hid ha1
   have HA2:=hid ha2
   have hsz:(Tryz.prog.info? 256).map (·.size)=some (cB (setG (fun i=>i) k)).toArray.size:=size48' (setG_length _ k)
   have hss:(cB (setG (fun i=>i) 0)).toArray.size=(cB (setG (fun i=>i) k)).toArray.size:=by simp [cB,setG_length]
   have HSR:=hid (setRow_heap wr G _ (cB (setG (fun i=>i) k)).toArray 256 (0,0) ha1)
   have HXR:=hid (below_setRow hx (g:=G) (by have:=HG.out;omega) (cB (setG (fun i=>i) k)).toArray)
   have HSZ:=hid (And.intro hsz hss)
   clear ha1 ha2 hx hsz hss
   go_wp2_with (first
    | (refine wpList_load_row rfl 256 (.tmp 3) rfl (G+1) rfl 256 (cB (setG (fun i=>i) k)).toArray (0,0) _ HA2.out Tryz.underlying256 rfl HSZ.out.1 ?_)
    | (refine wpList_store_row rfl 256 (.tmp 2) (.tmp 12) rfl G (cB (setG (fun i=>i) k)).toArray rfl rfl 256 _ HA1.out HSZ.out.1 HSZ.out.2 (cB_all _) ?_))
   refine ret_cell rfl rfl G 256 _ (0,0) rfl HSR.out Tryz.underlying256 HSZ.out.1 ⟨rfl,HXR.out⟩
theorem part4 (w:World) (l:List Bool) (i:Nat) (h:i < l.length):(part 4 (cB l).toArray (i*1)).run Tryz.prog w=.ok (.bool (l.getD i false)) w:=by
 have hc:=cB_get l i h
 simp [part,Nat.mul_one,hc]
theorem items_bools (w:World) (d:Nat) (xs ys:List Bool) (n:Nat) (hx:xs.length=n) (hy:ys.length=n):∀ is:List Nat,(∀ i ∈ is,i < n) →
  (Op.eqItems (d+1) 4 1 (cB xs).toArray (cB ys).toArray is).run Tryz.prog w=.ok (is.all fun i=>xs.getD i false == ys.getD i false) w
 | [],_=>by simp [Op.eqItems]
 | i::is,h=>by
   have hi:=h i (by simp)
   have ih:=items_bools w d xs ys n hx hy is (fun j hj=>h j (by simp [hj]))
   simp only [Op.eqItems,Sem.run_bind,part4 w xs i (by omega),part4 w ys i (by omega),Result.andThen_ok,run_equalIn_bool' w d 4 _ _ Tryz.underlying4,List.all_cons]
   cases hb:(xs.getD i false == ys.getD i false)
   ·simp
   ·simpa using ih
theorem all_eq_list {xs ys:List Bool} {n:Nat} (hx:xs.length=n) (hy:ys.length=n):((List.range n).all fun i=>xs.getD i false == ys.getD i false)=(xs == ys):=by
 rw [Bool.eq_iff_iff,List.all_eq_true,beq_iff_eq]
 constructor
 ·intro h
  apply List.ext_getElem (by omega)
  intro i h1 h2
  have:=h i (List.mem_range.2 (by omega))
  rw [beq_iff_eq,getD_eq _ _ _ h1,getD_eq _ _ _ h2] at this
  exact this
 ·rintro rfl i _
  simp
theorem run_eql48 (w:World) (xs ys:List Bool) (hx:xs.length=256) (hy:ys.length=256) :
  (Op.equalIn 10000 256 (.agg (cB xs).toArray) (.agg (cB ys).toArray)).run Tryz.prog w=.ok (xs == ys) w:=by
 obtain ⟨i,hi⟩:=info_of_underlying Tryz.underlying4
 have hc:Tryz.prog.cellsOf 4=1:=by kernel_rfl
 rw [run_equalIn_array w 9999 _ _ Tryz.underlying256 hi,hc,items_bools w 9998 xs ys 256 hx hy _ (fun i hi=>List.mem_range.1 hi),all_eq_list hx hy]
set_option maxHeartbeats 1000000 in
theorem is_any (A:Option Addr) (n c:Nat) (bs:List UInt8) (w:World) (h:Rd w w.heap.size A n bs) (hn:n≤140737488355328) :
  Calls Tryz.prog 172 #[.slice A n c] w fun e w'=>e=.returned (.bool (isB bs))∧Ext w w':=by
 have hl:=h.len
 by_cases h256:n≤256
 ·have HE:=hid (setG_eq hl h256)
  go_enter Tryz.func172,Tryz.ntmps172
  go_wp2_with fail
  refine (setOf_any A n c bs _ h (by omega)).mono ?_
  rintro e w1 ⟨rfl,hx1⟩
  go_wp2_with fail
  refine (firstOnes_any n _ h256).mono ?_
  rintro e w2 ⟨rfl,hx2⟩
  have HX:=hid (Ext.trans hx1 hx2)
  clear hx1 hx2
  go_wp2_with fail
  rw [run_eql48 _ _ _ (setG_length _ _) (setG_length _ _),HE.out]
  simp only [Result.andThen]
  rw [Oper.upon_value]
  go_wp2_with fail
  go_ret
  exact ⟨rfl,HX.out⟩
 ·have hF:isB bs=false:=isB_false fun hT=>h256 (by rw [← hl];exact hT.small)
  have HF:=hid hF
  clear hF
  go_enter Tryz.func172,Tryz.ntmps172
  go_wp2_with fail
  go_ret
  rw [HF.out]
  exact ⟨rfl,Ext.refl _⟩
def Seen (w:World) (G:Nat) (l:List Bool):Prop:=w.heap[G]? = some (.cells (cB l).toArray 4 (0,0))
theorem Seen.cell {w:World} {G:Nat} {l:List Bool} (h:Seen w G l) (k:Nat) (hk:k < l.length):w.cell? ⟨G,k,none⟩=some (.bool (l.getD k false)):=by
 rw [cell_of_row w G k _ _ _ h]
 simpa using cB_get l k hk
theorem Tryz.info4:(Tryz.prog.info? 4).map (fun i=>(i.zero,i.size,i.bytes))=some (some (.bool false),1,1):=by kernel_rfl
theorem wpL_make42 {w:World} {ops:Array Oper} {rest:List Oper} {o:Oper} {a:Act} {Q:Exit→Act→World→Prop}
  (hg:o.guard=none) (l c:Operand) (hop:o.op=Op.makeSlice 263 l c) (hl:a.eval l=.int .i64 256) (hc:a.eval c=.int .i64 256)
  (hK:∀ w',Seen w' w.heap.size (List.replicate 256 false)→Ext w w'→wpList Tryz.prog ops Q rest (a.put o.dst (.slice (some ⟨w.heap.size,0,none⟩) 256 256)) w') :
  wpList Tryz.prog ops Q (o::rest) a w:=by
 obtain ⟨i0,hi0,hz0,hz1,hz2⟩:=info_parts Tryz.info4
 refine wpList_make_full w hg l c 263 hop w.heap.size 4 i0 (.bool false) 1 Tryz.underlying263 hi0 hz0 hz1 .i64 .i64 256 256 256 hl hc rfl rfl (by rw [hz2];omega) (by unfold maxLen;omega) (Nat.le_refl _) ?_
 intro w' hown hgr
 refine hK w' ?_ ((Below.refl _ _).grown hgr (Nat.le_refl _) (by simp))
 rcases hown.2 with ⟨h1,_⟩ | ⟨g,cap,cur,h1,_,hh,_,_,hs,ht⟩
 ·cases h1
 ·simp only [Value.slice.injEq,Option.some.injEq,Addr.mk.injEq,and_true,true_and] at h1
  obtain ⟨rfl,rfl⟩:=h1
  unfold Seen
  rw [hh]
  have e1:cur.toList=(madeCells (Value.cells (.bool false)) (256*1)).toList:=by
   rw [← ht,List.take_of_length_le (by simp;omega)]
  have e2:(madeCells (Value.cells (.bool false)) (256*1)).toList=cB (List.replicate 256 false):=by
   rw [Nat.mul_one]
   have:Value.cells (.bool false)=#[Value.bool false]:=rfl
   rw [this,toList_madeCells_one,cB,List.map_replicate]
  rw [e2] at e1
  rw [← e1]
theorem isT_part {bs:List UInt8} {n k:Nat} (hlt:∀ x,x < k→nb bs x < n) (hk:nb bs k < n):∀ x,x < k+1→nb bs x < n:=fun x hx=>by
 rcases Nat.lt_or_ge x k with h1 | h1
 ·exact hlt x h1
 ·rw [show x=k by omega];exact hk
set_option maxHeartbeats 1000000 in
theorem ris_any (A:Option Addr) (n c:Nat) (bs:List UInt8) (w:World) (h:Rd w w.heap.size A n bs) (hn:n≤140737488355328) :
  Calls Tryz.prog 184 #[.slice A n c] w fun e w'=>e=.returned (.bool (isB bs))∧Ext w w':=by
 have hl:=h.len
 go_enter Tryz.func184,Tryz.ntmps184
 go_wp2_with (at_make;refine wpL_make42 rfl _ _ rfl rfl rfl ?_;intro w1 hs1 hx1)
 obtain ⟨G,hG⟩:∃ G,w.heap.size=G:=⟨_,rfl⟩
 rw [hG] at hs1 ⊢
 have HH:=hid (show Seen w1 G (setG (nb bs) 0)∧Ext w w1 from ⟨hs1,hx1⟩)
 have HG:=hid hG
 have HL:=hid hl
 clear hs1 hx1 hG hl
 go_loopw [4] (fun i wr=>∃ k:Nat,k≤n∧i=.int .i64 k∧(∀ x,x < k→nb bs x < n)∧(∀ x y,x < k→y < k→nb bs x=nb bs y→x=y)∧Seen wr G (setG (nb bs) k)∧Ext w wr) (fun i _=>n - (intOf i).toNat)
 case atStart=>exact ⟨0,by omega,rfl,fun x hx=>absurd hx (by omega),fun x y hx=>absurd hx (by omega),HH.out⟩
 case round =>
  obtain ⟨k,hk,rfl,hlt,hinj,ha2,hx⟩:=hrel
  clear HH
  by_cases hkn:k < n
  ·obtain ⟨b1,o1,rfl,hb1',hc1⟩:=(h.below hx (Nat.le_refl _)).at_ (by omega)
   have hck:=hc1 k hkn
   rw [byteAt_nb] at hck
   have hbl:=nb_lt bs k
   by_cases hpn:n≤nb bs k
   ·have hF:isB bs=false:=isB_false fun hT=>by
     rw [HL.out] at hT
     have:=hT.lt k hkn
     omega
    have HF:=hid hF
    have HX:=hid hx
    obtain ⟨p,hp⟩:∃ p,nb bs k=p:=⟨_,rfl⟩
    rw [hp] at hck hbl hpn
    clear hc1 ha2 hx hp hF hlt hinj
    go_wp2_with fail
    go_ret
    rw [HF.out]
    exact ⟨rfl,HX.out⟩
   ·have hold:=ha2.cell (nb bs k) (by rw [setG_length];exact hbl)
    have hat:=setG_at (nb bs) k (nb bs k) hbl
    cases hb:(setG (nb bs) k).getD (nb bs k) false with
    | true =>
      rw [hb] at hold hat
      obtain ⟨x,hxk,hxe⟩:=hat.1 rfl
      have hF:isB bs=false:=isB_false fun hT=>by
       rw [HL.out] at hT
       have:=hT.inj x k (by omega) hkn hxe
       omega
      have HF:=hid hF
      have HX:=hid hx
      obtain ⟨p,hp⟩:∃ p,nb bs k=p:=⟨_,rfl⟩
      rw [hp] at hck hbl hpn hold
      clear hc1 ha2 hx hp hF hlt hinj hat hb hxk hxe
      go_wp2_with fail
      go_ret
      rw [HF.out]
      exact ⟨rfl,HX.out⟩
    | false =>
      rw [hb] at hold hat
      have hne:∀ x,x < k→nb bs x ≠ nb bs k:=fun x hxk he=>by
       have:=hat.2 ⟨x,hxk,he⟩
       cases this
      have HLT:=hid (isT_part (n:=n) hlt (by omega))
      have HINJ:=hid (show ∀ x y,x < k+1→y < k+1→nb bs x=nb bs y→x=y from fun x y hx1 hy1 he=>by
       rcases Nat.lt_or_ge x k with h1 | h1
       ·rcases Nat.lt_or_ge y k with h2 | h2
        ·exact hinj x y h1 h2 he
        ·rw [show y=k by omega] at he;exact absurd he (hne x h1)
       ·rcases Nat.lt_or_ge y k with h2 | h2
        ·rw [show x=k by omega] at he;exact absurd he.symm (hne y h2)
        ·omega)
      have hS:setG (nb bs) (k+1)=(setG (nb bs) k).set (nb bs k) true:=rfl
      obtain ⟨p,hp⟩:∃ p,nb bs k=p:=⟨_,rfl⟩
      rw [hp] at hck hbl hpn hold hS
      have hfr:=frozen_of_row wr G p _ 4 ha2
      have hset:=heap_setCell_same wr G p _ 4 (.bool true) ha2
      rw [cB_set,← hS] at hset
      have HS:=hid (show Seen (wr.setCell ⟨G,p,none⟩ (.bool true)) G (setG (nb bs) (k+1)) from hset)
      have HX:=hid (Below.setCell hx (p:=⟨G,p,none⟩) (by have:=HG.out;simp;omega) (.bool true))
      clear hc1 ha2 hx hset hp hS hlt hinj hat hb hne
      go_wp2_with fail
      go_roundw
      case rel=>exact ⟨k+1,by omega,by go_num,HLT.out,HINJ.out,HS.out,HX.out⟩
      case measure=>simp [intOf];omega
  ·obtain rfl:k=n:=by omega
   have hF:isB bs=true:=isB_of (n:=k) ⟨HL.out,hlt,hinj⟩
   have HF:=hid hF
   have HX:=hid hx
   clear hF hlt hinj ha2 hx
   go_wp2_with fail
   go_ret
   rw [HF.out]
   exact ⟨rfl,HX.out⟩
end Go.Proofs.YtbgkmicelmenfaaGreatDoor.A
namespace Go.Proofs.YtbgkmicelmenfaaGreatDoor.A
open Go.RowKit
set_option maxRecDepth 100000
noncomputable def outB (bs:List UInt8):List UInt8:=if isB bs=true then backL bs else []
theorem outB_of {n:Nat} {bs:List UInt8} (h:IsT n bs):outB bs=backL bs:=by unfold outB;rw [if_pos (isB_of h)]
theorem outB_no {bs:List UInt8} (h:isB bs=false):outB bs = []:=by unfold outB;rw [h];rfl
def BackRet (w:World) (bs:List UInt8) (e:Ending) (w':World):Prop :=
 ∃ A c,e=.returned (.tuple #[.slice A (outB bs).length c,.bool (isB bs)])∧Rd w' w'.heap.size A (outB bs).length (outB bs)∧Ext w w'
theorem BackRet.bad {w w':World} {bs:List UInt8} (h:isB bs=false) (hx:Ext w w'):BackRet w bs (.returned (.tuple #[.slice none 0 0,.bool false])) w':=by
 unfold BackRet
 rw [outB_no h,h]
 exact ⟨_,_,rfl,Rd.nil _ _ _,hx⟩
theorem BackRet.good {w w':World} {bs:List UInt8} {n base G:Nat} (h:IsT n bs) (hx:Ext w w') (ho:Own w' base (.slice (some ⟨G,0,none⟩) n n) (backG bs n n)) :
  BackRet w bs (.returned (.tuple #[.slice (some ⟨G,0,none⟩) n n,.bool true])) w':=by
 unfold BackRet
 have e:outB bs=backG bs n n:=by rw [outB_of h];unfold backL;rw [h.len]
 rw [isB_of h,e]
 obtain ⟨A,c,e1,hr,_⟩:=ho.rdn (n:=n) (backG_length _ _ _)
 cases e1
 rw [backG_length]
 exact ⟨_,_,rfl,hr,hx⟩
theorem backG_step {w:World} {base G n k:Nat} {bs:List UInt8} (h:IsT n bs) (ho:Own w base (.slice (some ⟨G,0,none⟩) n n) (backG bs n k)) (hk:k < n) :
  w.cell? ⟨G,nb bs k,none⟩=some (.int .u8 (nb (backG bs n k) (nb bs k):Nat))∧w.frozen? ⟨G,nb bs k,none⟩=false ∧
  Own (w.setCell ⟨G,nb bs k,none⟩ (.int .u8 (k:Nat))) base (.slice (some ⟨G,0,none⟩) n n) (backG bs n (k+1)):=by
 have hl:=backG_length bs n k
 have hs:=h.small
 have ho':Own w base (.slice (some ⟨G,0,none⟩) (backG bs n k).length n) (backG bs n k):=by rw [hl];exact ho
 have hc:=ho'.cell (nb bs k) (by rw [hl];exact h.lt k hk)
 have hf:=ho'.free (nb bs k)
 have hset:=ho'.set_ (nb bs k) (UInt8.ofNat k)
 rw [u8_nat k (by omega),hl] at hset
 exact ⟨hc,hf,hset⟩
set_option maxHeartbeats 1000000 in
theorem back_any (A:Option Addr) (n c:Nat) (bs:List UInt8) (w:World) (h:Rd w w.heap.size A n bs) (hn:n≤140737488355328) :
  Calls Tryz.prog 115 #[.slice A n c] w (BackRet w bs):=by
 have hl:=h.len
 cases hb:isB bs with
 | false =>
   have HB:=hid hb
   go_enter Tryz.func115,Tryz.ntmps115
   go_wp2_with fail
   refine (is_any A n c bs _ h hn).mono ?_
   rintro e w1 ⟨rfl,hx1⟩
   have HX:=hid hx1
   rw [HB.out]
   clear hb hx1
   go_wp2_with fail
   go_ret2
   exact BackRet.bad HB.out HX.out
 | true =>
   have hT:IsT n bs:=by have:=isB_true.1 hb;rwa [hl] at this
   have hs:=hT.small
   have HB:=hid hb
   have HT:=hid hT
   go_enter Tryz.func115,Tryz.ntmps115
   go_wp2_with fail
   refine (is_any A n c bs _ h hn).mono ?_
   rintro e w1 ⟨rfl,hx1⟩
   have HX:=hid hx1
   rw [HB.out]
   have h1:=h.later hx1
   clear hb hx1 hT
   go_wp2_with (at_make;refine wpL_make rfl (.tmp 11) (.tmp 11) 22 rfl Tryz.underlying22 Tryz.info5 .i64 _ n rfl rfl rfl (by omega) w1.heap.size (Nat.le_refl _) ?_;intro w2 hown2 hx2 _)
   have h2:=h1.later hx2
   have hz2:=h1.below hx2 (Nat.le_refl _)
   have HX2:=hid (show Ext w1 w2 from hx2)
   have hown2':Own w2 w1.heap.size (.slice (some ⟨w1.heap.size,0,none⟩) n n) (backG bs n 0):=hown2
   obtain ⟨G,hG⟩:∃ G,w1.heap.size=G:=⟨_,rfl⟩
   rw [hG] at hown2' hz2 ⊢
   have HO:=hid hown2'
   have HG:=hid hG
   clear hown2 hown2' hx2 h1 h2 hG
   go_loopw [15] (fun i wr=>∃ k:Nat,k≤n∧i=.int .i64 k∧Own wr G (.slice (some ⟨G,0,none⟩) n n) (backG bs n k)∧Ext w1 wr) (fun i _=>n - (intOf i).toNat)
   case atStart=>exact ⟨0,by omega,rfl,HO.out,HX2.out⟩
   case round =>
    obtain ⟨k,hk,rfl,ho,hx⟩:=hrel
    clear HO HX2
    by_cases hlt:k < n
    ·have hr:Rd wr G A n bs:=HG.out ▸ ((h.later HX.out).below hx (Nat.le_refl _))
     obtain ⟨b1,o1,rfl,hb1',hc1⟩:=hr.at_ (by omega)
     have hck:=hc1 k hlt
     rw [byteAt_nb] at hck
     obtain ⟨hc,hf,hset⟩:=backG_step HT.out ho hlt
     have hpl:=HT.out.lt k hlt
     have hcl:=nb_lt (backG bs n k) (nb bs k)
     obtain ⟨q,hq⟩:∃ q,nb (backG bs n k) (nb bs k)=q:=⟨_,rfl⟩
     rw [hq] at hc hcl
     obtain ⟨p,hp⟩:∃ p,nb bs k=p:=⟨_,rfl⟩
     rw [hp] at hck hc hf hset hpl
     have HS:=hid hset
     have HX3:=hid (show Ext w1 (wr.setCell ⟨G,p,none⟩ (.int .u8 (k:Nat))) from Below.setCell hx (by have:=HG.out;simp;omega) _)
     clear hc1 hr ho hx hset hq hp hz2 h
     go_wp2_with fail
     go_roundw
     case rel=>exact ⟨k+1,by omega,by go_num,HS.out,HX3.out⟩
     case measure=>simp [intOf];omega
    ·obtain rfl:k=n:=by omega
     have HO:=hid ho
     have HX3:=hid (Ext.trans HX.out hx)
     clear ho hx h hz2
     go_wp2_with fail
     go_ret2
     exact BackRet.good HT.out HX3.out HO.out
set_option maxHeartbeats 1000000 in
theorem rback_any (A:Option Addr) (n c:Nat) (bs:List UInt8) (w:World) (h:Rd w w.heap.size A n bs) (hn:n≤140737488355328) :
  Calls Tryz.prog 136 #[.slice A n c] w (BackRet w bs):=by
 have hl:=h.len
 cases hb:isB bs with
 | false =>
   have HB:=hid hb
   go_enter Tryz.func136,Tryz.ntmps136
   go_wp2_with fail
   refine (ris_any A n c bs _ h hn).mono ?_
   rintro e w1 ⟨rfl,hx1⟩
   have HX:=hid hx1
   rw [HB.out]
   clear hb hx1
   go_wp2_with fail
   go_ret2
   exact BackRet.bad HB.out HX.out
 | true =>
   have hT:IsT n bs:=by have:=isB_true.1 hb;rwa [hl] at this
   have hs:=hT.small
   have HB:=hid hb
   have HT:=hid hT
   go_enter Tryz.func136,Tryz.ntmps136
   go_wp2_with fail
   refine (ris_any A n c bs _ h hn).mono ?_
   rintro e w1 ⟨rfl,hx1⟩
   have HX:=hid hx1
   rw [HB.out]
   have h1:=h.later hx1
   clear hb hx1 hT
   go_wp2_with (at_make;refine wpL_make rfl (.tmp 10) (.tmp 10) 22 rfl Tryz.underlying22 Tryz.info5 .i64 _ n rfl rfl rfl (by omega) w1.heap.size (Nat.le_refl _) ?_;intro w2 hown2 hx2 _)
   have h2:=h1.later hx2
   have hz2:=h1.below hx2 (Nat.le_refl _)
   have HX2:=hid (show Ext w1 w2 from hx2)
   have hown2':Own w2 w1.heap.size (.slice (some ⟨w1.heap.size,0,none⟩) n n) (backG bs n 0):=hown2
   obtain ⟨G,hG⟩:∃ G,w1.heap.size=G:=⟨_,rfl⟩
   rw [hG] at hown2' hz2 ⊢
   have HO:=hid hown2'
   have HG:=hid hG
   clear hown2 hown2' hx2 h1 h2 hG
   go_loopw [5] (fun i wr=>∃ k:Nat,k≤n∧i=.int .i64 k∧Own wr G (.slice (some ⟨G,0,none⟩) n n) (backG bs n k)∧Ext w1 wr) (fun i _=>n - (intOf i).toNat)
   case atStart=>exact ⟨0,by omega,rfl,HO.out,HX2.out⟩
   case round =>
    obtain ⟨k,hk,rfl,ho,hx⟩:=hrel
    clear HO HX2
    by_cases hlt:k < n
    ·have hr:Rd wr G A n bs:=HG.out ▸ ((h.later HX.out).below hx (Nat.le_refl _))
     obtain ⟨b1,o1,rfl,hb1',hc1⟩:=hr.at_ (by omega)
     have hck:=hc1 k hlt
     rw [byteAt_nb] at hck
     obtain ⟨hc,hf,hset⟩:=backG_step HT.out ho hlt
     have hpl:=HT.out.lt k hlt
     have hcl:=nb_lt (backG bs n k) (nb bs k)
     obtain ⟨q,hq⟩:∃ q,nb (backG bs n k) (nb bs k)=q:=⟨_,rfl⟩
     rw [hq] at hc hcl
     obtain ⟨p,hp⟩:∃ p,nb bs k=p:=⟨_,rfl⟩
     rw [hp] at hck hc hf hset hpl
     have HS:=hid hset
     have HX3:=hid (show Ext w1 (wr.setCell ⟨G,p,none⟩ (.int .u8 (k:Nat))) from Below.setCell hx (by have:=HG.out;simp;omega) _)
     clear hc1 hr ho hx hset hq hp hz2 h
     go_wp2_with fail
     go_roundw
     case rel=>exact ⟨k+1,by omega,by go_num,HS.out,HX3.out⟩
     case measure=>simp [intOf];omega
    ·obtain rfl:k=n:=by omega
     have HO:=hid ho
     have HX3:=hid (Ext.trans HX.out hx)
     clear ho hx h hz2
     go_wp2_with fail
     go_ret2
     exact BackRet.good HT.out HX3.out HO.out
end Go.Proofs.YtbgkmicelmenfaaGreatDoor.A
namespace Go.Proofs.YtbgkmicelmenfaaGreatDoor.A
open Go.RowKit
set_option maxRecDepth 100000
theorem _root_.Go.Proofs.YtbgkmicelmenfaaGreatDoor.Own.len_eq {w:World} {base n c:Nat} {A:Option Addr} {xs:List UInt8} (h:Own w base (.slice A n c) xs):xs.length=n:=by
 rcases h.2 with ⟨h1,h2⟩ | ⟨g,cap,cur,h1,_⟩
 ·cases h1;exact h2
 ·cases h1;rfl
theorem _root_.Go.Proofs.YtbgkmicelmenfaaGreatDoor.Own.celln {w:World} {base g n c:Nat} {xs:List UInt8} (h:Own w base (.slice (some ⟨g,0,none⟩) n c) xs) (hn:xs.length=n) (j:Nat) (hj:j < n) :
  w.cell? ⟨g,j,none⟩=some (.int .u8 (nb xs j:Nat)):=by
 subst hn;exact h.cell j hj
theorem _root_.Go.Proofs.YtbgkmicelmenfaaGreatDoor.Own.freen {w:World} {base g n c:Nat} {xs:List UInt8} (h:Own w base (.slice (some ⟨g,0,none⟩) n c) xs) (j:Nat):w.frozen? ⟨g,j,none⟩=false:=by
 have:=h.len_eq
 subst this
 exact h.free j
theorem _root_.Go.Proofs.YtbgkmicelmenfaaGreatDoor.Own.setn {w:World} {base g n c:Nat} {xs:List UInt8} (h:Own w base (.slice (some ⟨g,0,none⟩) n c) xs) (j:Nat) (x:UInt8) :
  Own (w.setCell ⟨g,j,none⟩ (.int .u8 (x.toNat:Int))) base (.slice (some ⟨g,0,none⟩) n c) (xs.set j x):=by
 have:=h.len_eq
 subst this
 exact h.set_ j x
end Go.Proofs.YtbgkmicelmenfaaGreatDoor.A
namespace Go.Proofs.YtbgkmicelmenfaaGreatDoor.A
open Go.RowKit
set_option maxRecDepth 100000
def mkF (e m:Nat) (bs:List UInt8) (c x:Nat):Nat:=affN (gp m x e) (nb bs) c
def mkU (e m:Nat) (bs:List UInt8) (c x:Nat):UInt8:=UInt8.ofNat (mkF e m bs c x)
def mkL (e m:Nat) (bs:List UInt8) (c:Nat):List UInt8:=tabF (mkF e m bs c) 256
theorem mkF_lt {e m c x:Nat} {bs:List UInt8} (hc:c < 256):mkF e m bs c x < 256:=affN_lt hc
theorem cf48 (vs:Array Value) (w:World):(callFunc 171 vs).run Tryz.prog w=.ok (.enter 171 vs) w:=by go_simp
theorem cf47 (vs:Array Value) (w:World):(callFunc 170 vs).run Tryz.prog w=.ok (.enter 170 vs) w:=by go_simp
theorem cf54 (vs:Array Value) (w:World):(callFunc 183 vs).run Tryz.prog w=.ok (.enter 183 vs) w:=by go_simp
theorem cf53 (vs:Array Value) (w:World):(callFunc 182 vs).run Tryz.prog w=.ok (.enter 182 vs) w:=by go_simp
theorem retE {w:World} {v:Value} (e:Ending) (w':World) (h:e=.returned v∧w=w'):∃ u,e=.returned u∧Ext w w'∧K.holds (.eq v) w' u:=by
 obtain ⟨rfl,rfl⟩:=h
 exact ⟨_,rfl,Ext.refl _,rfl⟩
theorem retX {w:World} {v:Value} (e:Ending) (w':World) (h:e=.returned v∧Ext w w'):∃ u,e=.returned u∧Ext w w'∧K.holds (.eq v) w' u:=by
 obtain ⟨rfl,hx⟩:=h
 exact ⟨_,rfl,hx,rfl⟩
theorem exec_load33 {o:Oper} {a:Act} {w:World} {t:Tmp} {B:Nat} {bs:List UInt8} (ho:o.op=.load 194 (.tmp t)) (ht:a.tmps.getD t undef=.pointer (some ⟨B,0,none⟩)) (hA:Arr8 w B bs) (hb:bs.length=8) :
  (execOp a.eval o).run Tryz.prog w=.ok (.value (.agg (cellsOf bs).toArray)) w:=by
 have h:=run_loadVar_row (P:=Tryz.prog) w B 194 194 (cellsOf bs).toArray (0,0) _ hA Tryz.underlying194 rfl (size33' hb)
 unfold execOp
 simp only [ho,Act.eval,ht,Instr.loadAt,Instr.sureAddr,Sem.run_bind,Sem.run_pure,Result.andThen_ok,h]
theorem wp_store_u8 {o:Oper} {a:Act} {w:World} {K:Act→World→Prop} {Q:Exit→Act→World→Prop} (x y:Operand) (ho:o.op=.store 5 x y) (hd:o.dst=none)
  (g k n:Nat) (old:Value) (hx:a.eval x=.pointer (some ⟨g,k,none⟩)) (hy:a.eval y=.int .u8 n)
  (hc:w.cell? ⟨g,k,none⟩=some old) (hf:w.frozen? ⟨g,k,none⟩=false)
  (h:K a (w.setCell ⟨g,k,none⟩ (.int .u8 n))):o.wp Tryz.prog a w K Q:=by
 have hrun:(Instr.storeAt 5 (.pointer (some ⟨g,k,none⟩)) (.int .u8 n)).run Tryz.prog w=.ok () (w.setCell ⟨g,k,none⟩ (.int .u8 n)):=by go_simp
 unfold Oper.wp execOp
 simp only [ho,hx,hy,Sem.run_bind,Sem.run_pure,hrun,Result.andThen_ok]
 have h':K (a.put o.dst undef) (w.setCell ⟨g,k,none⟩ (.int .u8 n)):=by rw [hd];exact h
 exact h'
theorem mk_last {w w1:World} {base G k n:Nat} {f:Nat→UInt8} (ho:Own w base (.slice (some ⟨G,0,none⟩) 256 256) (fillTo f 256 k)) (hx:Ext w w1) (hk:k < 256) (hn:((f k).toNat:Int)=n) :
  ∃ old,w1.cell? ⟨G,k,none⟩=some old∧w1.frozen? ⟨G,k,none⟩=false∧Own (w1.setCell ⟨G,k,none⟩ (.int .u8 n)) base (.slice (some ⟨G,0,none⟩) 256 256) (fillTo f 256 (k+1)):=by
 have h1:=ho.kept hx
 have h2:=h1.setn k (f k)
 rw [fillTo_set _ _ _ _ rfl,hn] at h2
 exact ⟨_,h1.celln (fillTo_length _ _ _) k hk,h1.freen k,h2⟩
theorem Arr8.set_ {w:World} {B k:Nat} {v:Value} {bs:List UInt8} (h:Arr8 w B bs):Arr8 (w.setCell ⟨B+1,k,none⟩ v) B bs :=
 (heap_setCell_other w ⟨B+1,k,none⟩ B v (by simp)).trans h
def makeKs (ee m k c B:Nat) (bs:List UInt8):List K:=[.eq (.slice (some ⟨B+1,0,none⟩) 256 256),.eq (.int .i64 k),.eq (.int .i64 k),.eq (.int .u8 k),.eq (.int .i64 ee),.eq (.int .i64 m),.eq (.int .u8 (gp m k ee:Nat)),.eq (.agg (cellsOf bs).toArray),.eq (.int .u8 c),.eq (.int .u8 (mkF ee m bs c k:Nat)),.eq (.pointer (some ⟨B+1,k,none⟩)),.any]
set_option maxHeartbeats 4000000 in
theorem make_any (ee m c:Nat) (bs:List UInt8) (w:World) (hb:bs.length=8) (he:ee≤1000) (hm:IsRest m) (hc:c < 256) (ho:Odd w) :
  Calls Tryz.prog 114 #[.int .i64 ee,.int .i64 m,.agg (cellsOf bs).toArray,.int .u8 c] w (RetB w (mkL ee m bs c)):=by
 have h0:=hm.lo
 have h1:=hm.hi
 have HM:=hid hm
 go_enter Tryz.func114,Tryz.ntmps114
 have hA0:Arr8 (w.alloc (.cells (cellsOf bs).toArray 194)) w.heap.size bs:=heap_alloc_new w _
 have hE0:=Ext.alloc w (.cells (cellsOf bs).toArray 194)
 clear hm
 go_wp2_with (at_make;refine wpL_make rfl (.const (.int .i64 256)) (.const (.int .i64 256)) 22 rfl Tryz.underlying22 Tryz.info5 .i64 _ 256 rfl rfl rfl (by omega) w.heap.size (by simp) ?_;intro w2 hown2 hx2 _)
 have hA:=hA0.later hx2
 have hE:=hE0.trans hx2
 obtain ⟨B,hB⟩:∃ B,w.heap.size=B:=⟨_,rfl⟩
 have HB:=hid hB
 rw [show (w.alloc (.cells (cellsOf bs).toArray 194)).heap.size=w.heap.size+1 by simp] at hown2
 rw [hB] at hown2 hA ⊢
 have HH:=hid (show Own w2 B (.slice (some ⟨B+1,0,none⟩) 256 256) (fillTo (mkU ee m bs c) 256 0)∧Arr8 w2 B bs∧Ext w w2 from ⟨by rw [fillTo_zero];exact hown2,hA,hE⟩)
 clear hown2 hA hE hA0 hE0 hx2 hB
 go_loopw [28] (fun i wr=>∃ k:Nat,k≤256∧i=.int .i64 k∧Own wr B (.slice (some ⟨B+1,0,none⟩) 256 256) (fillTo (mkU ee m bs c) 256 k)∧Arr8 wr B bs∧Ext w wr) (fun i _=>256 - (intOf i).toNat)
 case atStart=>exact ⟨0,by omega,rfl,HH.out⟩
 case round =>
  obtain ⟨k,hk,rfl,hown,hA,hx⟩:=hrel
  clear HH
  by_cases hlt:k < 256
  ·have HC:=hid hown
   have HA:=hid hA
   have HX:=hid hx
   have HE6:=hid (show ee≤1000000 by omega)
   have hO:=hid (ho.later hx)
   clear ho
   clear hown hA hx
   go_wp2_with fail
   refine region_tail 11 _ mixed rfl (by kernel_rfl) (by kernel_rfl) rfl rfl rfl (kV (makeKs ee m k c B bs)) (kV_keep _) (forall_ops ⟨?_,?_,?_,?_,?_,?_,?_,?_,?_,?_,?_,fun h=>absurd rfl h,trivial⟩) ?_
   ·intro _ a w hk
    have s9:a.tmps.getD 9 undef=.slice (some ⟨B+1,0,none⟩) 256 256:=hk.was 9 (by kernel_rfl) rfl
    exact step_move rfl rfl s9 rfl
   ·intro _ a w hk
    have s10:a.tmps.getD 10 undef=.int .i64 k:=hk.was 10 (by kernel_rfl) rfl
    exact step_move rfl rfl s10 rfl
   ·intro _ a w hk
    have s10:a.tmps.getD 10 undef=.int .i64 k:=hk.was 10 (by kernel_rfl) rfl
    exact step_move rfl rfl s10 rfl
   ·intro _ a w hk
    have s33:=hk.eq_ 2 33 (by kernel_rfl) rfl
    refine step_val (v:=.int .u8 k) (w':=w) rfl ?_ (Ext.refl w) rfl
    go_simp
    exact IntWalk.u8_in _ (by omega)
   ·intro _ a w hk
    have s0:a.tmps.getD 0 undef=.int .i64 ee:=hk.was 0 (by kernel_rfl) rfl
    exact step_move rfl rfl s0 rfl
   ·intro _ a w hk
    have s1:a.tmps.getD 1 undef=.int .i64 m:=hk.was 1 (by kernel_rfl) rfl
    exact step_move rfl rfl s1 rfl
   ·intro _ a w hk
    have s34:=hk.eq_ 3 34 (by kernel_rfl) rfl
    have s35:=hk.eq_ 4 35 (by kernel_rfl) rfl
    have s36:=hk.eq_ 5 36 (by kernel_rfl) rfl
    exact step_call rfl rfl (by simp only [List.map_toArray,List.map_cons,List.map_nil,Act.eval,s34,s35,s36]<;>rfl) cf48 (pow_any k ee m w HM.out hlt HE6.out) (fun e w' h=>retE e w' h)
   ·intro _ a w hk
    have s6:a.tmps.getD 6 undef=.pointer (some ⟨B,0,none⟩):=hk.was 6 (by kernel_rfl) rfl
    exact step_val (v:=.agg (cellsOf bs).toArray) (w':=w) rfl (exec_load33 rfl s6 (HA.out.later hk.ext) hb) (Ext.refl w) rfl
   ·intro _ a w hk
    have s3:a.tmps.getD 3 undef=.int .u8 c:=hk.was 3 (by kernel_rfl) rfl
    exact step_move rfl rfl s3 rfl
   ·intro _ a w hk
    have s37:=hk.eq_ 6 37 (by kernel_rfl) rfl
    have s38:=hk.eq_ 7 38 (by kernel_rfl) rfl
    have s39:=hk.eq_ 8 39 (by kernel_rfl) rfl
    exact step_call rfl rfl (by simp only [List.map_toArray,List.map_cons,List.map_nil,Act.eval,s37,s38,s39]<;>rfl) cf47 (aff_any (gp m k ee) c bs w hb (gp_lt HM.out _) hc (hO.out.later hk.ext)) (fun e w' h=>retX e w' h)
   ·intro _ a w hk
    have s31:=hk.eq_ 0 31 (by kernel_rfl) rfl
    have s32:=hk.eq_ 1 32 (by kernel_rfl) rfl
    refine step_val (v:=.pointer (some ⟨B+1,k,none⟩)) (w':=w) rfl ?_ (Ext.refl w) rfl
    have hlti:(k:Int) < 256:=by omega
    go_simp
   ·intro a w1 hf
    have s31:=hf.eq_ 0 31 (by kernel_rfl) rfl
    have s32:=hf.eq_ 1 32 (by kernel_rfl) rfl
    have s33:=hf.eq_ 2 33 (by kernel_rfl) rfl
    have s34:=hf.eq_ 3 34 (by kernel_rfl) rfl
    have s35:=hf.eq_ 4 35 (by kernel_rfl) rfl
    have s36:=hf.eq_ 5 36 (by kernel_rfl) rfl
    have s37:=hf.eq_ 6 37 (by kernel_rfl) rfl
    have s38:=hf.eq_ 7 38 (by kernel_rfl) rfl
    have s39:=hf.eq_ 8 39 (by kernel_rfl) rfl
    have s40:=hf.eq_ 9 40 (by kernel_rfl) rfl
    have s41:=hf.eq_ 10 41 (by kernel_rfl) rfl
    have hx:=hf.ext
    have e:=hf.frame
    clear hf
    simp only [regFrame,Act.put,List.setIfInBounds_toArray,List.set_cons_zero,List.set_cons_succ,s31,s32,s33,s34,s35,s36,s37,s38,s39,s40,s41] at e
    clear s31 s32 s33 s34 s35 s36 s37 s38 s39 s40 s41
    subst e
    have HX1:=hid (Ext.trans HX.out hx)
    obtain ⟨old,hcell,hfrz,hown1⟩:=mk_last (n:=mkF ee m bs c k) HC.out hx hlt (u8_nat _ (mkF_lt hc))
    have HO1:=hid hown1
    have HA1:=hid (HA.out.later hx)
    refine wp_store_u8 (.tmp 41) (.tmp 40) rfl rfl (B+1) k (mkF ee m bs c k) old rfl rfl hcell hfrz ?_
    clear hx hown1 hcell hfrz
    go_wp2_with fail
    go_roundw
    case rel=>exact ⟨k+1,by omega,by go_num,HO1.out,Arr8.set_ HA1.out,Below.setCell HX1.out (by have:=HB.out;simp;omega) _⟩
    case measure=>simp [intOf];omega
  ·obtain rfl:k=256:=by omega
   rw [fillTo_full] at hown
   have HC:=hid hown
   have HX:=hid hx
   clear hown hA hx
   go_wp2_with fail
   go_ret
   exact ⟨_,rfl,HB.out ▸ HC.out,HX.out⟩
def rmakeKs (ee m k c B:Nat) (bs:List UInt8):List K:=[.eq (.slice (some ⟨B+1,0,none⟩) 256 256),.eq (.int .i64 k),.eq (.int .i64 k),.eq (.int .u8 k),.eq (.int .i64 ee),.eq (.int .i64 m),.eq (.int .u8 (gp m k ee:Nat)),.eq (.agg (cellsOf bs).toArray),.eq (.int .u8 c),.eq (.int .u8 (mkF ee m bs c k:Nat)),.eq (.pointer (some ⟨B+1,k,none⟩)),.any]
set_option maxHeartbeats 4000000 in
theorem rmake_any (ee m c:Nat) (bs:List UInt8) (w:World) (hb:bs.length=8) (he:ee≤1000) (hm:IsRest m) (hc:c < 256) :
  Calls Tryz.prog 135 #[.int .i64 ee,.int .i64 m,.agg (cellsOf bs).toArray,.int .u8 c] w (RetB w (mkL ee m bs c)):=by
 have h0:=hm.lo
 have h1:=hm.hi
 have HM:=hid hm
 go_enter Tryz.func135,Tryz.ntmps135
 have hA0:Arr8 (w.alloc (.cells (cellsOf bs).toArray 194)) w.heap.size bs:=heap_alloc_new w _
 have hE0:=Ext.alloc w (.cells (cellsOf bs).toArray 194)
 clear hm
 go_wp2_with (at_make;refine wpL_make rfl (.const (.int .i64 256)) (.const (.int .i64 256)) 22 rfl Tryz.underlying22 Tryz.info5 .i64 _ 256 rfl rfl rfl (by omega) w.heap.size (by simp) ?_;intro w2 hown2 hx2 _)
 have hA:=hA0.later hx2
 have hE:=hE0.trans hx2
 obtain ⟨B,hB⟩:∃ B,w.heap.size=B:=⟨_,rfl⟩
 have HB:=hid hB
 rw [show (w.alloc (.cells (cellsOf bs).toArray 194)).heap.size=w.heap.size+1 by simp] at hown2
 rw [hB] at hown2 hA ⊢
 have HH:=hid (show Own w2 B (.slice (some ⟨B+1,0,none⟩) 256 256) (fillTo (mkU ee m bs c) 256 0)∧Arr8 w2 B bs∧Ext w w2 from ⟨by rw [fillTo_zero];exact hown2,hA,hE⟩)
 clear hown2 hA hE hA0 hE0 hx2 hB
 go_loopw [10] (fun i wr=>∃ k:Nat,k≤256∧i=.int .i64 k∧Own wr B (.slice (some ⟨B+1,0,none⟩) 256 256) (fillTo (mkU ee m bs c) 256 k)∧Arr8 wr B bs∧Ext w wr) (fun i _=>256 - (intOf i).toNat)
 case atStart=>exact ⟨0,by omega,rfl,HH.out⟩
 case round =>
  obtain ⟨k,hk,rfl,hown,hA,hx⟩:=hrel
  clear HH
  by_cases hlt:k < 256
  ·have HC:=hid hown
   have HA:=hid hA
   have HX:=hid hx
   have HE6:=hid (show ee≤1000000 by omega)
   clear hown hA hx
   go_wp2_with fail
   refine region_tail 11 _ mixed rfl (by kernel_rfl) (by kernel_rfl) rfl rfl rfl (kV (rmakeKs ee m k c B bs)) (kV_keep _) (forall_ops ⟨?_,?_,?_,?_,?_,?_,?_,?_,?_,?_,?_,fun h=>absurd rfl h,trivial⟩) ?_
   ·intro _ a w hk
    have s9:a.tmps.getD 9 undef=.slice (some ⟨B+1,0,none⟩) 256 256:=hk.was 9 (by kernel_rfl) rfl
    exact step_move rfl rfl s9 rfl
   ·intro _ a w hk
    have s10:a.tmps.getD 10 undef=.int .i64 k:=hk.was 10 (by kernel_rfl) rfl
    exact step_move rfl rfl s10 rfl
   ·intro _ a w hk
    have s10:a.tmps.getD 10 undef=.int .i64 k:=hk.was 10 (by kernel_rfl) rfl
    exact step_move rfl rfl s10 rfl
   ·intro _ a w hk
    have s18:=hk.eq_ 2 18 (by kernel_rfl) rfl
    refine step_val (v:=.int .u8 k) (w':=w) rfl ?_ (Ext.refl w) rfl
    go_simp
    exact IntWalk.u8_in _ (by omega)
   ·intro _ a w hk
    have s0:a.tmps.getD 0 undef=.int .i64 ee:=hk.was 0 (by kernel_rfl) rfl
    exact step_move rfl rfl s0 rfl
   ·intro _ a w hk
    have s1:a.tmps.getD 1 undef=.int .i64 m:=hk.was 1 (by kernel_rfl) rfl
    exact step_move rfl rfl s1 rfl
   ·intro _ a w hk
    have s19:=hk.eq_ 3 19 (by kernel_rfl) rfl
    have s20:=hk.eq_ 4 20 (by kernel_rfl) rfl
    have s21:=hk.eq_ 5 21 (by kernel_rfl) rfl
    exact step_call rfl rfl (by simp only [List.map_toArray,List.map_cons,List.map_nil,Act.eval,s19,s20,s21]<;>rfl) cf54 (rpow_any k ee m w HM.out hlt HE6.out) (fun e w' h=>retE e w' h)
   ·intro _ a w hk
    have s6:a.tmps.getD 6 undef=.pointer (some ⟨B,0,none⟩):=hk.was 6 (by kernel_rfl) rfl
    exact step_val (v:=.agg (cellsOf bs).toArray) (w':=w) rfl (exec_load33 rfl s6 (HA.out.later hk.ext) hb) (Ext.refl w) rfl
   ·intro _ a w hk
    have s3:a.tmps.getD 3 undef=.int .u8 c:=hk.was 3 (by kernel_rfl) rfl
    exact step_move rfl rfl s3 rfl
   ·intro _ a w hk
    have s22:=hk.eq_ 6 22 (by kernel_rfl) rfl
    have s23:=hk.eq_ 7 23 (by kernel_rfl) rfl
    have s24:=hk.eq_ 8 24 (by kernel_rfl) rfl
    exact step_call rfl rfl (by simp only [List.map_toArray,List.map_cons,List.map_nil,Act.eval,s22,s23,s24]<;>rfl) cf53 (raff_any (gp m k ee) c bs w hb (gp_lt HM.out _) hc) (fun e w' h=>retX e w' h)
   ·intro _ a w hk
    have s16:=hk.eq_ 0 16 (by kernel_rfl) rfl
    have s17:=hk.eq_ 1 17 (by kernel_rfl) rfl
    refine step_val (v:=.pointer (some ⟨B+1,k,none⟩)) (w':=w) rfl ?_ (Ext.refl w) rfl
    have hlti:(k:Int) < 256:=by omega
    go_simp
   ·intro a w1 hf
    have s16:=hf.eq_ 0 16 (by kernel_rfl) rfl
    have s17:=hf.eq_ 1 17 (by kernel_rfl) rfl
    have s18:=hf.eq_ 2 18 (by kernel_rfl) rfl
    have s19:=hf.eq_ 3 19 (by kernel_rfl) rfl
    have s20:=hf.eq_ 4 20 (by kernel_rfl) rfl
    have s21:=hf.eq_ 5 21 (by kernel_rfl) rfl
    have s22:=hf.eq_ 6 22 (by kernel_rfl) rfl
    have s23:=hf.eq_ 7 23 (by kernel_rfl) rfl
    have s24:=hf.eq_ 8 24 (by kernel_rfl) rfl
    have s25:=hf.eq_ 9 25 (by kernel_rfl) rfl
    have s26:=hf.eq_ 10 26 (by kernel_rfl) rfl
    have hx:=hf.ext
    have e:=hf.frame
    clear hf
    simp only [regFrame,Act.put,List.setIfInBounds_toArray,List.set_cons_zero,List.set_cons_succ,s16,s17,s18,s19,s20,s21,s22,s23,s24,s25,s26] at e
    clear s16 s17 s18 s19 s20 s21 s22 s23 s24 s25 s26
    subst e
    have HX1:=hid (Ext.trans HX.out hx)
    obtain ⟨old,hcell,hfrz,hown1⟩:=mk_last (n:=mkF ee m bs c k) HC.out hx hlt (u8_nat _ (mkF_lt hc))
    have HO1:=hid hown1
    have HA1:=hid (HA.out.later hx)
    refine wp_store_u8 (.tmp 26) (.tmp 25) rfl rfl (B+1) k (mkF ee m bs c k) old rfl rfl hcell hfrz ?_
    clear hx hown1 hcell hfrz
    go_wp2_with fail
    go_roundw
    case rel=>exact ⟨k+1,by omega,by go_num,HO1.out,Arr8.set_ HA1.out,Below.setCell HX1.out (by have:=HB.out;simp;omega) _⟩
    case measure=>simp [intOf];omega
  ·obtain rfl:k=256:=by omega
   rw [fillTo_full] at hown
   have HC:=hid hown
   have HX:=hid hx
   clear hown hA hx
   go_wp2_with fail
   go_ret
   exact ⟨_,rfl,HB.out ▸ HC.out,HX.out⟩
end Go.Proofs.YtbgkmicelmenfaaGreatDoor.A
namespace Go.Proofs.YtbgkmicelmenfaaGreatDoor.A
open Go.RowKit
set_option maxRecDepth 100000
def rows1:List UInt8:=[241,227,199,143,31,62,124,248]
def rows2:List UInt8:=[122,188,235,185,52,129,186,203]
def S1:List UInt8:=[99,124,119,123,242,107,111,197,48,1,103,43,254,215,171,118,202,130,201,125,250,89,71,240,173,212,162,175,156,164,114,192,183,253,147,38,54,63,247,204,52,165,229,241,113,216,49,21,4,199,35,195,24,150,5,154,7,18,128,226,235,39,178,117,9,131,44,26,27,110,90,160,82,59,214,179,41,227,47,132,83,209,0,237,32,252,177,91,106,203,190,57,74,76,88,207,208,239,170,251,67,77,51,133,69,249,2,127,80,60,159,168,81,163,64,143,146,157,56,245,188,182,218,33,16,255,243,210,205,12,19,236,95,151,68,23,196,167,126,61,100,93,25,115,96,129,79,220,34,42,144,136,70,238,184,20,222,94,11,219,224,50,58,10,73,6,36,92,194,211,172,98,145,149,228,121,231,200,55,109,141,213,78,169,108,86,244,234,101,122,174,8,186,120,37,46,28,166,180,198,232,221,116,31,75,189,139,138,112,62,181,102,72,3,246,14,97,53,87,185,134,193,29,158,225,248,152,17,105,217,142,148,155,30,135,233,206,85,40,223,140,161,137,13,191,230,66,104,65,153,45,15,176,84,187,22]
def S2:List UInt8:=[226,78,84,252,148,194,74,204,98,13,106,70,60,77,139,209,94,250,100,203,180,151,190,43,188,119,46,3,211,25,89,193,29,6,65,107,85,240,153,105,234,156,24,174,99,223,231,187,0,115,102,251,150,76,133,228,58,9,69,170,15,238,16,235,45,127,244,41,172,207,173,145,141,120,200,149,249,47,206,205,8,122,136,56,92,131,42,40,71,219,184,199,147,164,18,83,255,135,14,49,54,33,88,72,1,142,55,116,50,202,233,177,183,171,12,215,196,86,66,38,7,152,96,217,182,185,17,64,236,32,140,189,160,201,132,4,73,35,241,79,80,31,19,220,216,192,158,87,227,195,123,101,59,2,143,62,232,37,146,229,21,221,253,23,169,191,212,154,126,197,57,103,254,118,157,67,167,225,208,245,104,242,27,52,112,5,163,138,213,121,134,168,48,198,81,75,30,166,39,246,53,210,110,36,22,130,95,218,230,117,162,239,44,178,28,159,93,111,128,10,114,68,155,108,144,11,91,51,125,90,82,243,97,161,247,176,214,63,124,109,237,20,224,165,61,34,179,248,137,222,113,26,175,186,181,129]
def X1:List UInt8:=[82,9,106,213,48,54,165,56,191,64,163,158,129,243,215,251,124,227,57,130,155,47,255,135,52,142,67,68,196,222,233,203,84,123,148,50,166,194,35,61,238,76,149,11,66,250,195,78,8,46,161,102,40,217,36,178,118,91,162,73,109,139,209,37,114,248,246,100,134,104,152,22,212,164,92,204,93,101,182,146,108,112,72,80,253,237,185,218,94,21,70,87,167,141,157,132,144,216,171,0,140,188,211,10,247,228,88,5,184,179,69,6,208,44,30,143,202,63,15,2,193,175,189,3,1,19,138,107,58,145,17,65,79,103,220,234,151,242,207,206,240,180,230,115,150,172,116,34,231,173,53,133,226,249,55,232,28,117,223,110,71,241,26,113,29,41,197,137,111,183,98,14,170,24,190,27,252,86,62,75,198,210,121,32,154,219,192,254,120,205,90,244,31,221,168,51,136,7,199,49,177,18,16,89,39,128,236,95,96,81,127,169,25,181,74,13,45,229,122,159,147,201,156,239,160,224,59,77,174,42,245,176,200,235,187,60,131,83,153,97,23,43,4,126,186,119,214,38,225,105,20,99,85,33,12,125]
def X2:List UInt8:=[48,104,153,27,135,185,33,120,80,57,219,225,114,9,98,60,62,126,94,142,241,160,204,163,42,29,251,182,214,32,196,141,129,101,245,137,203,157,119,198,87,67,86,23,212,64,26,77,192,99,108,227,183,200,100,106,83,170,56,152,12,244,155,237,127,34,118,175,221,58,11,88,103,136,6,195,53,13,1,139,140,194,230,95,2,36,117,147,102,30,229,226,84,216,16,206,122,232,8,44,18,151,50,171,180,39,10,35,223,239,202,217,184,250,220,49,107,209,173,25,73,189,81,150,238,228,168,65,218,255,205,85,134,54,190,97,82,248,187,14,130,72,105,154,224,71,158,92,4,75,52,21,121,38,167,222,41,174,146,215,132,233,210,186,93,243,197,176,191,164,59,113,68,70,43,252,235,111,213,246,20,254,124,112,90,125,253,47,24,131,22,165,145,31,5,149,116,169,193,91,74,133,109,19,7,79,78,69,178,15,201,28,166,188,236,115,144,123,207,89,143,161,249,45,242,177,0,148,55,159,208,46,156,110,40,63,128,240,61,211,37,138,181,231,66,179,199,234,247,76,17,51,3,162,172,96]
theorem rest283:IsRest 283:=⟨by omega,by omega⟩
theorem mk_fast {m e c:Nat} {bs:List UInt8} (hm:IsRest m) (he:e < 1024):mkL e m bs c=(List.range 256).map fun x=>UInt8.ofNat (affN (pw m x e) (nb bs) c):=by
 unfold mkL tabF
 refine List.map_congr_left fun x hx=>?_
 rw [mkF,pw_eq hm (List.mem_range.1 hx) he]
theorem mk1:mkL 254 283 rows1 99=S1:=by rw [mk_fast rest283 (by omega)];decide +kernel
theorem mk2:mkL 247 283 rows2 226=S2:=by rw [mk_fast rest283 (by omega)];decide +kernel
theorem x1_s1:∀ i < 256,nb X1 (nb S1 i)=i:=by decide +kernel
theorem x2_s2:∀ i < 256,nb X2 (nb S2 i)=i:=by decide +kernel
theorem isT_S1:IsT 256 S1:=⟨by decide +kernel,fun i _=>nb_lt _ _,fun i j hi hj h=>by rw [← x1_s1 i hi,h,x1_s1 j hj]⟩
theorem isT_S2:IsT 256 S2:=⟨by decide +kernel,fun i _=>nb_lt _ _,fun i j hi hj h=>by rw [← x2_s2 i hi,h,x2_s2 j hj]⟩
theorem out1:outB S1=X1:=by rw [outB_of isT_S1];decide +kernel
theorem out2:outB S2=X2:=by rw [outB_of isT_S2];decide +kernel
def tabT:Nat→List UInt8
 | 0=>S1
 | 1=>S2
 | 2=>X1
 | _=>X2
theorem tabT_length (k:Nat):(tabT k).length=256:=by
 match k with
 | 0=>decide +kernel
 | 1=>decide +kernel
 | 2=>decide +kernel
 | _+3=>exact (by decide +kernel:X2.length=256)
def layF (which:Nat) (b:List UInt8) (i:Nat):UInt8:=(tabT ((2*(which - 1)+i) % 4)).getD (nb b i) 0
def layL (which:Nat) (b:List UInt8):List UInt8:=(List.range 16).map (layF which b)
theorem layL_length (which:Nat) (b:List UInt8):(layL which b).length=16:=by simp [layL]
def sevT:List (List Nat):=[[3,4,6,8,9,13,14],[2,5,7,8,9,12,15],[1,4,6,10,11,12,15],[0,5,7,10,11,13,14],[0,2,5,8,11,14,15],[1,3,4,9,10,14,15],[0,2,7,9,10,12,13],[1,3,6,8,11,12,13],[0,1,4,7,10,13,15],[0,1,5,6,11,12,14],[2,3,5,6,8,13,15],[2,3,4,7,9,12,14],[1,2,6,7,9,11,12],[0,3,6,7,8,10,13],[0,3,4,5,9,11,14],[1,2,4,5,8,10,15]]
def sevN (i j:Nat):Nat:=(sevT.getD i []).getD j 0
theorem sevN_lt:∀ i < 16,∀ j < 7,sevN i j < 16:=by decide
def mixK (b:List UInt8) (i:Nat):Nat→UInt8
 | 0=>0
 | k+1=>mixK b i k ^^^ b.getD (sevN i k) 0
def mixF (b:List UInt8) (i:Nat):UInt8:=mixK b i 7
def mixL (b:List UInt8):List UInt8:=(List.range 16).map (mixF b)
theorem mixL_length (b:List UInt8):(mixL b).length=16:=by simp [mixL]
theorem xorL_length (xs ys:List UInt8) (n:Nat):(xorL xs ys n).length=n:=by simp [xorL]
def stepL (i:Nat) (b k:List UInt8):List UInt8:=layL (1+i % 2) (xorL b k 16)
theorem stepL_length (i:Nat) (b k:List UInt8):(stepL i b k).length=16:=layL_length _ _
def chi (i:Nat):Int:=[5871781006564002452,7904181063698728992,15821769039155751280].getD i 0
def clo (i:Nat):Int:=[18308165927316385504,18386141011142107824,226472410124699918].getD i 0
def constL (i:Nat):List UInt8:=spreadL (chi (i % 3)) 8++spreadL (clo (i % 3)) 8
theorem spreadL_length (v:Int) (n:Nat):(spreadL v n).length=n:=by simp [spreadL]
theorem constL_length (i:Nat):(constL i).length=16:=by rw [constL,List.length_append,spreadL_length,spreadL_length]
def frontL (key:List UInt8) (o:Nat):List UInt8:=(List.range 16).map fun i=>key.getD (o+i) 0
theorem frontL_length (key:List UInt8) (o:Nat):(frontL key o).length=16:=by simp [frontL]
def seedP (key:List UInt8):Nat→List UInt8×List UInt8
 | 0=>(frontL key 0,frontL key 16)
 | i+1=>(xorL (mixL (stepL i (seedP key i).1 (constL (key.length / 8 - 2+i)))) (seedP key i).2 16,(seedP key i).1)
def seedL (key:List UInt8) (i:Nat):List UInt8:=(seedP key i).1
def headL (key:List UInt8) (i:Nat):List UInt8:=(seedP key i).2
theorem seedL_succ (key:List UInt8) (i:Nat):seedL key (i+1)=xorL (mixL (stepL i (seedL key i) (constL (key.length / 8 - 2+i)))) (headL key i) 16:=rfl
theorem headL_succ (key:List UInt8) (i:Nat):headL key (i+1)=seedL key i:=rfl
theorem seedL_length (key:List UInt8):∀ i,(seedL key i).length=16
 | 0=>frontL_length _ _
 | _+1=>xorL_length _ _ _
theorem headL_length (key:List UInt8):∀ i,(headL key i).length=16
 | 0=>frontL_length _ _
 | i+1=>seedL_length key i
def turnT (q:Nat):Int:=[-19,-31,61,31,19].getD q 0
def turnB (b:List UInt8) (q:Nat):List UInt8:=turnL b 16 (tf (turnT q) 16) (ts (turnT q))
theorem turnB_length (b:List UInt8) (q:Nat):(turnB b q).length=16:=turnL_length _ _ _ _
def keyF (key:List UInt8) (i:Nat):List UInt8:=xorL (seedL key (i % 4)) (turnB (seedL key ((i+1) % 4)) (i / 4)) 16
theorem keyF_length (key:List UInt8) (i:Nat):(keyF key i).length=16:=xorL_length _ _ _
def keyN (key:List UInt8):Nat:=9+key.length / 4
def keysL (key:List UInt8):List (List UInt8):=(List.range (keyN key)).map (keyF key)
def undoF (ks:Nat→List UInt8) (r i:Nat):List UInt8:=if 0 < i∧i < r then mixL (ks (r - i)) else ks (r - i)
end Go.Proofs.YtbgkmicelmenfaaGreatDoor.A
namespace Go.Proofs.YtbgkmicelmenfaaGreatDoor.A
open Go.RowKit
set_option maxRecDepth 100000
section
variable {P:Program} {ops:Array Oper} {Q:Exit→Act→World→Prop} {r n:Nat}
variable {P:Program} {l:List Oper} {V:Nat→World→Value→Prop} {a0:Act} {w0:World}
theorem inv_start:Inv l.toArray V a0 w0 (Array.replicate l.toArray.size false) a0 { w0 with drawn:=w0.drawn+1 }:=by
 refine ⟨by simp,Ext.drew w0,rfl,rfl,?_,fun _ _=>rfl,?_⟩
 ·intro j x _ hl
  rw [getD_replicate_false] at hl;cases hl
 ·intro j x t _ hl
  rw [getD_replicate_false] at hl;cases hl
structure InvO (l:List Oper) (V:Nat→World→Value→Prop) (a0:Act) (s1:Nat) (I1 I2:World→Prop) (listed:Array Bool) (a:Act) (w:World):Prop where
 inv:Inv l.toArray V a0 w listed a w
 pre:listed.getD s1 false=false→I1 w
 post:listed.getD s1 false=true→I2 w
theorem InvO.any {s1:Nat} {I1 I2:World→Prop} {listed:Array Bool} {a:Act} {w:World} (h:InvO l V a0 s1 I1 I2 listed a w):I1 w∨I2 w:=by
 cases hl:listed.getD s1 false with
 | false=>exact .inl (h.pre hl)
 | true=>exact .inr (h.post hl)
theorem wpAny_ou {Q:Exit→Act→World→Prop} {n s s1:Nat} {I1 I2:World→Prop} (hok:regOk l.toArray n=true) (hn:a0.tmps.size=n) (hs:uptoOk l.toArray s=true) (hseq:Region.seqB .any l.toArray (l.length - s) s (listedAt l.length s)=true)
  (hs1:s1 < s) {os:Oper} (hos:l[s1]? = some os) (hg:os.guard=none)
  (hV:∀ i w w' v,Ext w w'→V i w v→V i w' v) (h1:∀ w w',Ext w w'→I1 w→I1 w') (h2:∀ w w',Ext w w'→I2 w→I2 w')
  (step:∀ i o,(l.take s).toArray[i]? = some o→i ≠ s1→∀ a w,Kn l.toArray V a0 w i a w→(I1 w∨I2 w)→(waits os i=true→I1 w)→Step P l.toArray V Q i o a w)
  (wr:∀ a w,Kn l.toArray V a0 w s1 a w→I1 w→os.wp P a w (fun a' w'=>∃ v,a' = a.put os.dst v∧I2 w'∧V s1 w' v∧∀ i v,i ≠ s1→V i w v→V i w' v) Q)
  (last:∀ a w,Fin_ (l.take s).toArray V a0 w a w→I2 w→wpList P l.toArray Q (l.drop s) a w) :
  ∀ (fuel:Nat) (listed:Array Bool) (a:Act) (w:World),listed.toList.count false=fuel→(∀ j,listed.getD j false=true→j < s)→InvO l V a0 s1 I1 I2 listed a w→wpAny P .any l.toArray Q fuel listed a w:=by
 have hsn:s < l.length:=by
  unfold uptoOk at hs
  simp only [Bool.and_eq_true,decide_eq_true_eq,List.size_toArray] at hs
  exact hs.1.1
 have hlast:∀ (listed:Array Bool) (a:Act) (w:World),(∀ j,listed.getD j false=true→j < s)→InvO l V a0 s1 I1 I2 listed a w→(∀ j,j < s→listed.getD j false=true)→wpAny P .any l.toArray Q (listed.toList.count false) listed a w:=by
  intro listed a w hlo h hall
  have hsz:listed.size=l.length:=by rw [h.inv.lsize,List.size_toArray]
  have e:=listed_eq hsz (by omega) hall hlo
  have hc:listed.toList.count false=(l.drop s).length:=by
   rw [e]
   simp [listedAt,List.count_append,List.count_replicate]
  rw [hc]
  refine wpAny_of_seq (l.drop s) s listed a w (fun j=>by simp) (by rw [List.length_drop,e];exact hseq) (last a w ⟨Ext.refl _,h.inv.defers,h.inv.size,fun t ht=>h.inv.old t fun j x hx hd=>?_,fun j x t hx hd=>?_⟩ (h.post (hall s1 hs1)))
  ·cases hl:listed.getD j false with
   | false=>rfl
   | true =>
     have hj:=hlo j hl
     exact absurd hd (ht j x (by
      have:l[j]? = some x:=by simpa using hx
      simp [hj,this]))
  ·have hx2:(l.take s)[j]? = some x:=by simpa using hx
   have hj:j < s:=by
    rcases Nat.lt_or_ge j s with h1 | h1
    ·exact h1
    ·rw [List.getElem?_eq_none (by simp;omega)] at hx2;cases hx2
   rw [List.getElem?_take,if_pos hj] at hx2
   exact h.inv.new j x t (by simpa using hx2) (hall j hj) hd
 intro fuel
 induction fuel with
 | zero =>
   intro listed a w hc hlo h
   by_cases hall:∀ j,j < s→listed.getD j false=true
   ·rw [← hc];exact hlast listed a w hlo h hall
   ·exfalso
    refine hall fun j hj=>?_
    have hjs:j < listed.size:=by rw [h.inv.lsize,List.size_toArray];omega
    cases hl:listed.getD j false with
    | true=>rfl
    | false =>
      have hm:false ∈ listed.toList:=by
       have:listed[j] = false:=by simpa [hjs] using hl
       rw [← this];simp
      have:=List.count_pos_iff.2 hm
      omega
 | succ fuel ih =>
   intro listed a w hc hlo h
   by_cases hall:∀ j,j < s→listed.getD j false=true
   ·rw [← hc];exact hlast listed a w hlo h hall
   ·refine ⟨fun hr=>absurd (fun j hj=>all_listed hok h.inv.lsize hr j (by rw [List.size_toArray];omega)) hall,fun i hi=>?_⟩
    have his:i < s:=(upto_ready hs h.inv hlo hi).resolve_right hall
    obtain ⟨hun,o,ho,_⟩:=mem_ready.1 hi
    have hcs:=count_set listed i hun
    have ho2:(l.take s).toArray[i]? = some o:=by
     have:l[i]? = some o:=by simpa using ho
     simp [his,this]
    have hlo2:∀ j,(listed.setIfInBounds i true).getD j false=true→j < s:=fun j hl=>by
     by_cases hj:j=i
     ·omega
     ·rw [getD_set_ne false (Ne.symm hj)] at hl
      exact hlo j hl
    have hli:i < listed.size:=by rw [h.inv.lsize];exact (Array.getElem?_eq_some_iff.1 ho).1
    have hun':listed.getD i false=false:=by simpa [hli] using hun
    have hat:∀ {w1:World},Inv l.toArray V a0 w listed a w1→Inv l.toArray V a0 w1 listed a w1:=fun h=>⟨h.lsize,Ext.refl _,h.defers,h.size,h.closed,h.old,h.new⟩
    by_cases hi1:i=s1
    ·subst hi1
     have hoe:o=os:=by
      have:l[i]? = some o:=by simpa using ho
      rw [hos] at this;exact (Option.some.inj this).symm
     subst hoe
     have hwr:=wr a w (h.inv.kn hok hn hi) (h.pre hun')
     have hwant:Region.wanted o (yielded l.toArray a.tmps)=true:=by simp [Region.wanted,hg]
     unfold wpOp
     simp only [ho]
     rw [if_pos hwant]
     refine .inl (Oper.wp_mono (fun a' w' hh=>?_) hwr)
     obtain ⟨v,rfl,hi2,hv,hkeep⟩:=hh
     have hI:Inv l.toArray V a0 w' listed a w':=⟨h.inv.lsize,Ext.refl _,h.inv.defers,h.inv.size,h.inv.closed,h.inv.old,fun j x t hx hl hd=>hkeep _ _ (fun e=>by subst e;rw [hun'] at hl;cases hl) (h.inv.new j x t hx hl hd)⟩
     refine ih _ _ _ (by omega) hlo2 ⟨hI.put hok hn hV hi ho (Ext.refl _) hv,fun hl=>?_,fun _=>hi2⟩
     simp [hli] at hl
    ·have hset:(listed.setIfInBounds i true).getD s1 false=listed.getD s1 false:=getD_set_ne false hi1
     have hst:=step i o ho2 hi1 a w (h.inv.kn hok hn hi) h.any (fun hwt=>by
      refine h.pre ?_
      cases hl:listed.getD s1 false with
      | false=>rfl
      | true =>
        obtain ⟨e,he,hb,rfl⟩:=waits_edge hwt
        have hos':l.toArray[s1]? = some os:=by simpa using hos
        have:=h.inv.closed s1 os hos' hl e he hb
        rw [hun'] at this;cases this)
     unfold wpOp
     simp only [ho]
     unfold Step at hst
     split
     ·rename_i hw
      rw [if_pos hw] at hst
      refine .inl (Oper.wp_mono (fun a' w' hh=>?_) hst)
      obtain ⟨v,rfl,he,hv⟩:=hh
      have hp:=h.inv.put hok hn hV hi ho he hv
      exact ih _ _ _ (by omega) hlo2 ⟨⟨hp.lsize,Ext.refl _,hp.defers,hp.size,hp.closed,hp.old,hp.new⟩,fun hl=>h1 _ _ he (h.pre (by rw [← hset];exact hl)),fun hl=>h2 _ _ he (h.post (by rw [← hset];exact hl))⟩
     ·rename_i hw
      rw [if_neg hw] at hst
      have hp:=h.inv.put hok hn hV hi ho (Ext.refl _) hst
      exact ih _ _ _ (by omega) hlo2 ⟨⟨hp.lsize,Ext.refl _,hp.defers,hp.size,hp.closed,hp.old,hp.new⟩,fun hl=>h.pre (by rw [← hset];exact hl),fun hl=>h.post (by rw [← hset];exact hl)⟩
theorem region_ou {Q:Exit→Act→World→Prop} {id n:Nat} (s s1:Nat) (os:Oper) (I1 I2:World→Prop) (hm:P.follows .mixedOrders=true) (hn:a0.tmps.size=n) (hok:regOk l.toArray n=true)
  (hs:uptoOk l.toArray s=true) (hseq:Region.seqB .any l.toArray (l.length - s) s (listedAt l.length s)=true)
  (hs1:s1 < s) (hos:l[s1]? = some os) (hg:os.guard=none)
  (V:Nat→World→Value→Prop) (hV:∀ i w w' v,Ext w w'→V i w v→V i w' v) (h1:∀ w w',Ext w w'→I1 w→I1 w') (h2:∀ w w',Ext w w'→I2 w→I2 w') (h0:I1 w0)
  (step:∀ i o,(l.take s).toArray[i]? = some o→i ≠ s1→∀ a w,Kn l.toArray V a0 w i a w→(I1 w∨I2 w)→(waits os i=true→I1 w)→Step P l.toArray V Q i o a w)
  (wr:∀ a w,Kn l.toArray V a0 w s1 a w→I1 w→os.wp P a w (fun a' w'=>∃ v,a' = a.put os.dst v∧I2 w'∧V s1 w' v∧∀ i v,i ≠ s1→V i w v→V i w' v) Q)
  (last:∀ a w,Fin_ (l.take s).toArray V a0 w a w→I2 w→wpList P l.toArray Q (l.drop s) a w):(Code.region id l.toArray true).wp P Q a0 w0:=by
 have hi:Inv l.toArray V a0 w0 (Array.replicate l.toArray.size false) a0 { w0 with drawn:=w0.drawn+1 }:=inv_start
 refine wp_region_any hm (wpAny_ou (V:=V) hok hn hs hseq hs1 hos hg hV h1 h2 step wr last l.toArray.size _ _ _ ?_ ?_ ⟨⟨hi.lsize,Ext.refl _,hi.defers,hi.size,hi.closed,hi.old,hi.new⟩,fun _=>h1 _ _ (Ext.drew w0) h0,fun hl=>?_⟩)
 ·simp
 ·intro j hl
  rw [getD_replicate_false] at hl;cases hl
 ·rw [getD_replicate_false] at hl;cases hl
end
end Go.Proofs.YtbgkmicelmenfaaGreatDoor.A
namespace Go.Proofs.YtbgkmicelmenfaaGreatDoor.A
open Go.RowKit
set_option maxRecDepth 100000
def bv (bs:List UInt8):Value:=.agg (cellsOf bs).toArray
structure RW (w:World) (g o:Nat) (bs:List UInt8):Prop where
 rd:w.rangeAt g o (cellsOf bs)
 wr:w.there g o bs.length
theorem RW.lt {w:World} {g o:Nat} {bs:List UInt8} (h:RW w g o bs) (hp:0 < bs.length):g < w.heap.size:=by
 have:=h.rd 0 _ (cellsOf_get bs 0 hp)
 exact World.block_lt_of_cell? w _ this
theorem RW.keep {w w':World} {g o:Nat} {bs:List UInt8} (h:RW w g o bs) (hk:w'.heap[g]? = w.heap[g]?):RW w' g o bs:=by
 have hc:∀ k,w'.cell? ⟨g,k,none⟩=w.cell? ⟨g,k,none⟩:=fun k=>by simp [World.cell?,hk]
 have hf:∀ k,w'.frozen? ⟨g,k,none⟩=w.frozen? ⟨g,k,none⟩:=fun k=>by simp [World.frozen?,hk]
 exact ⟨fun j v hv=>(hc _).trans (h.rd j v hv),fun j hj=>by rw [hc,hf];exact h.wr j hj⟩
theorem RW.below {w w':World} {B g o:Nat} {bs:List UInt8} (h:RW w g o bs) (hx:Below B w w') (hg:g < B):RW w' g o bs :=
 h.keep (hx.block g hg)
theorem RW.later {w w':World} {g o:Nat} {bs:List UInt8} (h:RW w g o bs) (hp:0 < bs.length) (hx:Ext w w'):RW w' g o bs:=h.below hx (h.lt hp)
theorem rangeAt_cut {w:World} {g o:Nat} {bs:List UInt8} (h:w.rangeAt g o (cellsOf bs)) (k n:Nat) (_hk:k+n≤bs.length):w.rangeAt g (o+k) (cellsOf ((bs.drop k).take n)):=by
 intro j v hv
 have e:cellsOf ((bs.drop k).take n)=((cellsOf bs).drop k).take n:=by simp [cellsOf,List.map_drop,List.map_take]
 rw [e,List.getElem?_take] at hv
 split at hv
 ·rw [List.getElem?_drop] at hv
  have:=h (k+j) v hv
  rwa [Nat.add_assoc]
 ·cases hv
theorem RW.cut {w:World} {g o:Nat} {bs:List UInt8} (h:RW w g o bs) (k n:Nat) (hk:k+n≤bs.length):RW w g (o+k) ((bs.drop k).take n) :=
 ⟨rangeAt_cut h.rd k n hk,fun j hj=>by
  have:=h.wr (k+j) (by simp at hj;omega)
  rwa [Nat.add_assoc]⟩
theorem RW.cell {w:World} {g o:Nat} {bs:List UInt8} (h:RW w g o bs) (k:Nat) (hk:k < bs.length):w.cell? ⟨g,o+k,none⟩=some (.int .u8 (byteAt bs k)):=h.rd k _ (cellsOf_get bs k hk)
theorem RW.free {w:World} {g o:Nat} {bs:List UInt8} (h:RW w g o bs) (k:Nat) (hk:k < bs.length):w.frozen? ⟨g,o+k,none⟩=false:=(h.wr k hk).2
theorem RW.of_block {w:World} {g:Nat} {t:TypeId} {bs:List UInt8} (h:w.heap[g]? = some (.cells (cellsOf bs).toArray t (0,0))):RW w g 0 bs:=by
 have hc:∀ k,w.cell? ⟨g,0+k,none⟩=(cellsOf bs)[k]?:=fun k=>by rw [Nat.zero_add,cell_of_row w g k _ t _ h];simp
 refine ⟨fun j v hv=>(hc j).trans hv,fun j hj=>⟨?_,?_⟩⟩
 ·rw [hc,cellsOf_get bs j hj];rfl
 ·exact frozen_of_row w g _ _ t h
theorem RW.new (w:World) (t:TypeId) (bs:List UInt8):RW (w.alloc (.cells (cellsOf bs).toArray t)) w.heap.size 0 bs:=RW.of_block (heap_alloc_new w _)
def lay (bs:List UInt8) (k:Nat) (cs:List UInt8):List UInt8:=(List.range bs.length).map fun i=>if k≤i∧i < k+cs.length then cs.getD (i - k) 0 else bs.getD i 0
theorem lay_length (bs:List UInt8) (k:Nat) (cs:List UInt8):(lay bs k cs).length=bs.length:=by simp [lay]
theorem cellsOf_getD (bs:List UInt8) (k:Nat) (h:k < bs.length):(cellsOf bs)[k]? = some (.int .u8 ((bs.getD k 0).toNat:Int)):=cellsOf_get bs k h
theorem lay_getD (bs:List UInt8) (k:Nat) (cs:List UInt8) (i:Nat) (hi:i < bs.length):(lay bs k cs).getD i 0=if k≤i∧i < k+cs.length then cs.getD (i - k) 0 else bs.getD i 0:=by
 simp only [lay,List.getD_eq_getElem?_getD,List.getElem?_map,List.getElem?_range hi,Option.map_some,Option.getD_some]
theorem lay_all (bs cs:List UInt8) (h:cs.length=bs.length):lay bs 0 cs=cs:=by
 apply List.ext_getElem
 ·rw [lay_length,h]
 ·intro i h1 h2
  simp only [lay,List.getElem_map,List.getElem_range]
  rw [if_pos ⟨Nat.zero_le _,by omega⟩,Nat.sub_zero,List.getD_eq_getElem?_getD,List.getElem?_eq_getElem h2];rfl
theorem RW.store {w:World} {g o:Nat} {bs:List UInt8} (h:RW w g o bs) (k:Nat) (cs:List UInt8) (hk:k+cs.length≤bs.length):RW (w.setCells g (o+k) (cellsOf cs)) g o (lay bs k cs):=by
 have hl:=lay_length bs k cs
 refine ⟨fun j v hv=>?_,?_⟩
 ·have hj:j < bs.length:=by
   have:=(List.getElem?_eq_some_iff.1 hv).1
   rw [cellsOf_length,hl] at this;exact this
  rw [cellsOf_getD _ _ (by omega),lay_getD _ _ _ _ hj] at hv
  cases hv
  by_cases hc:k≤j∧j < k+cs.length
  ·rw [if_pos hc]
   have hs:=World.cell?_setCells_in g (cellsOf cs) (o+k) w (fun i hi=>by
    have:=(h.wr (k+i) (by rw [cellsOf_length] at hi;omega)).1
    rwa [← Nat.add_assoc] at this) (j - k) (by rw [cellsOf_length];omega)
   rw [show o+k+(j - k)=o+j by omega] at hs
   rw [hs]
   have:=cellsOf_getD cs (j - k) (by omega)
   rw [List.getElem?_eq_getElem (by rw [cellsOf_length];omega)] at this
   exact this
  ·rw [if_neg hc,World.cell?_setCells_out g (cellsOf cs) (o+k) w ⟨g,o+j,none⟩ (fun _ _=>by
    rw [cellsOf_length]
    show o+j < o+k∨o+k+cs.length≤o+j
    omega)]
   exact h.rd j _ (cellsOf_getD bs j hj)
 ·rw [hl];exact World.there_setCells h.wr g (o+k) (cellsOf cs)
theorem RW.store0 {w:World} {g:Nat} {bs:List UInt8} (h:RW w g 0 bs) (cs:List UInt8) (hk:cs.length=bs.length):RW (w.setCells g 0 (cellsOf cs)) g 0 cs:=by
 have:=h.store 0 cs (by omega)
 rw [lay_all bs cs hk] at this
 exact this
theorem RW.apart {w:World} {g o:Nat} {bs:List UInt8} (h:RW w g o bs) (g' o':Nat) (vs:List Value) (ha:g ≠ g'):RW (w.setCells g' o' vs) g o bs :=
 ⟨World.rangeAt_setCells_apart h.rd g' o' vs (.inl ha),World.there_setCells h.wr g' o' vs⟩
theorem RW.set_ {w:World} {g o:Nat} {bs:List UInt8} (h:RW w g o bs) (k:Nat) (hk:k < bs.length) (x:UInt8):RW (w.setCell ⟨g,o+k,none⟩ (.int .u8 (x.toNat:Int))) g o (bs.set k x):=by
 obtain ⟨old,hold⟩:=Option.isSome_iff_exists.1 (h.wr k hk).1
 have hf:∀ a:Addr,(w.setCell ⟨g,o+k,none⟩ (.int .u8 (x.toNat:Int))).frozen? a=w.frozen? a:=fun a=>World.frozen?_setCells g [.int .u8 (x.toNat:Int)] (o+k) w a
 refine ⟨fun j v hv=>?_,fun j hj=>?_⟩
 ·have hj:j < bs.length:=by
   have:=(List.getElem?_eq_some_iff.1 hv).1
   rw [cellsOf_length,List.length_set] at this;exact this
  rw [cellsOf_getD _ _ (by rw [List.length_set];exact hj)] at hv
  cases hv
  by_cases e:k=j
  ·subst e
   rw [World.cell?_setCell_same _ _ _ hold]
   simp [hj]
  ·rw [World.cell?_setCell_other _ _ _ _ (by simp)]
   rw [h.rd j _ (cellsOf_getD bs j hj)]
   simp [e]
 ·rw [hf]
  refine ⟨?_,(h.wr j (by simpa using hj)).2⟩
  exact World.isSome_setCells g [.int .u8 (x.toNat:Int)] (o+k) w _ (h.wr j (by simpa using hj)).1
theorem RW.apart1 {w:World} {g o:Nat} {bs:List UInt8} (h:RW w g o bs) (a:Addr) (v:Value) (ha:g ≠ a.block):RW (w.setCell a v) g o bs :=
 h.keep (heap_setCell_other w a g v ha)
theorem below_setCells {B b:Nat} {a:World} (hb:B≤b):∀ (vs:List Value) (o:Nat) (w:World),Below B a w→Below B a (w.setCells b o vs)
 | [],_,_,h=>h
 | _::vs,o,_,h=>below_setCells hb vs (o+1) _ (h.setCell (p:=⟨b,o,none⟩) hb _)
theorem RW.drew {w:World} {g o:Nat} {bs:List UInt8} (h:RW w g o bs):RW w.drew g o bs:=⟨h.rd,h.wr⟩
theorem RW.drewN {w:World} {g o:Nat} {bs:List UInt8} (h:RW w g o bs) (n:Nat):RW (w.drewN n) g o bs:=⟨h.rd,h.wr⟩
theorem RW.slice {w:World} {g o n B:Nat} {bs:List UInt8} (h:RW w g o bs) (hn:bs.length=n) (hg:g < B):Rd w B (some ⟨g,o,none⟩) n bs :=
 ⟨hn,fun _=>⟨g,o,rfl,hg,fun k hk=>h.cell k (by omega)⟩⟩
theorem rangeAt_of_rd {w:World} {B n b o:Nat} {bs:List UInt8} (h:Rd w B (some ⟨b,o,none⟩) n bs):w.rangeAt b o (cellsOf bs):=fun j v hv=>by
 have hj:j < n:=by
  have:=(List.getElem?_eq_some_iff.1 hv).1
  rw [cellsOf_length,h.len] at this;exact this
 obtain ⟨b',o',e,_,hc⟩:=h.at_ (by omega)
 cases e
 rw [hc j hj]
 rw [cellsOf_get bs j (by rw [h.len];exact hj)] at hv
 exact hv
theorem size55:(Tryz.prog.info? 133).map (·.size)=some 16:=by kernel_rfl
theorem size73:(Tryz.prog.info? 197).map (·.size)=some 64:=by kernel_rfl
theorem size50:(Tryz.prog.info? 130).map (·.size)=some 1024:=by kernel_rfl
theorem size83:(Tryz.prog.info? 237).map (·.size)=some 112:=by kernel_rfl
theorem size82:(Tryz.prog.info? 236).map (·.size)=some 7:=by kernel_rfl
theorem size55' {bs:List UInt8} (h:bs.length=16):(Tryz.prog.info? 133).map (·.size)=some (cellsOf bs).length:=by rw [size55,cellsOf_length,h]
theorem size73' {bs:List UInt8} (h:bs.length=64):(Tryz.prog.info? 197).map (·.size)=some (cellsOf bs).length:=by rw [size73,cellsOf_length,h]
theorem size50' {bs:List UInt8} (h:bs.length=1024):(Tryz.prog.info? 130).map (·.size)=some (cellsOf bs).length:=by rw [size50,cellsOf_length,h]
theorem size83' {bs:List UInt8} (h:bs.length=112):(Tryz.prog.info? 237).map (·.size)=some (cellsOf bs).length:=by rw [size83,cellsOf_length,h]
theorem size82' {bs:List UInt8} (h:bs.length=7):(Tryz.prog.info? 236).map (·.size)=some (cellsOf bs).length:=by rw [size82,cellsOf_length,h]
theorem ret_mid {fn:Func} {R:Ending→World→Prop} {a:Act} {w:World} {p:Tmp} {ty e:TypeId} {N:Nat} (hres:fn.results=#[.cell p ty]) (hd:a.defers = []) (g:Nat) (bs:List UInt8)
  (hp:a.tmps.getD p undef=.pointer (some ⟨g,0,none⟩)) (hg:w.rangeAt g 0 (cellsOf bs)) (hu:Tryz.prog.underlying ty=some (.array N e))
  (hi:(Tryz.prog.info? ty).map (·.size)=some (cellsOf bs).length) (h:R (.returned (bv bs)) w) :
  bodyPost Tryz.prog fn R .ret a w:=by
 refine bodyPost_ret (v:=bv bs) ?_ hd h
 have hp':a.tmps[p]?.getD undef=.pointer (some ⟨g,0,none⟩):=by simpa using hp
 have hl:=run_loadVar_mid (P:=Tryz.prog) w g 0 ty (cellsOf bs) _ hg hu rfl hi
 simp [results,hres,hp',asAddr,hl,bv]
theorem exec_load_mid {o:Oper} {a:Act} {w:World} {ty:TypeId} {t:Tmp} {g k:Nat} {bs:List UInt8} {N:Nat} {e:TypeId} (ho:o.op=.load ty (.tmp t)) (ht:a.tmps.getD t undef=.pointer (some ⟨g,k,none⟩)) (hc:w.rangeAt g k (cellsOf bs))
  (hu:Tryz.prog.underlying ty=some (.array N e)) (hi:(Tryz.prog.info? ty).map (·.size)=some (cellsOf bs).length) :
  (execOp a.eval o).run Tryz.prog w=.ok (.value (bv bs)) w:=by
 have h:=run_loadAt_mid (P:=Tryz.prog) w g k ty (cellsOf bs) _ hc hu rfl hi
 unfold execOp
 simp only [ho,Act.eval,ht,Sem.run_bind,h,Sem.run_pure,Result.andThen,bv]
theorem wpList_atp {ops:Array Oper} {rest:List Oper} {o:Oper} {a:Act} {w:World} {Q:Exit→Act→World→Prop} (hgd:o.guard=none) (arr e:TypeId) (n:Nat) (x:Operand) (ho:o.op=.sliceToArrayPointer arr x)
  (A:Option Addr) (len cap:Nat) (hx:a.eval x=.slice A len cap) (hu:Tryz.prog.underlying arr=some (.array n e)) (hn:n≤len)
  (h:wpList Tryz.prog ops Q rest (a.put o.dst (.pointer A)) w):wpList Tryz.prog ops Q (o::rest) a w :=
 wpList_plain hgd fun K hK=>by
  have hk:=hK _ _ h
  clear hK h
  unfold Oper.wp execOp
  simp only [ho,hx,Sem.run_bind,run_arrayAt w arr e n A len cap hu hn,Result.andThen_ok,Sem.run_pure]
  exact hk
theorem exec_atp {o:Oper} {a:Act} {w:World} {arr e:TypeId} {n:Nat} {t:Tmp} {A:Option Addr} {len cap:Nat} (ho:o.op=.sliceToArrayPointer arr (.tmp t)) (ht:a.tmps.getD t undef=.slice A len cap)
  (hu:Tryz.prog.underlying arr=some (.array n e)) (hn:n≤len):(execOp a.eval o).run Tryz.prog w=.ok (.value (.pointer A)) w:=by
 unfold execOp
 simp only [ho,Act.eval,ht,Sem.run_bind,run_arrayAt w arr e n A len cap hu hn,Sem.run_pure,Result.andThen]
theorem wpList_ld {ops:Array Oper} {rest:List Oper} {o:Oper} {a:Act} {w:World} {Q:Exit→Act→World→Prop} (hgd:o.guard=none) (ty:TypeId) (x:Operand) (ho:o.op=.load ty x)
  (g k:Nat) (hx:a.eval x=.pointer (some ⟨g,k,none⟩)) (bs:List UInt8) {N:Nat} {e:TypeId} (hc:w.rangeAt g k (cellsOf bs))
  (hu:Tryz.prog.underlying ty=some (.array N e)) (hi:(Tryz.prog.info? ty).map (·.size)=some (cellsOf bs).length)
  (h:wpList Tryz.prog ops Q rest (a.put o.dst (.agg (cellsOf bs).toArray)) w):wpList Tryz.prog ops Q (o::rest) a w :=
 wpList_load_mid hgd ty x ho g k hx (cellsOf bs) _ hc hu rfl hi h
theorem wpList_st {ops:Array Oper} {rest:List Oper} {o:Oper} {a:Act} {w:World} {Q:Exit→Act→World→Prop} (hgd:o.guard=none) (ty:TypeId) (x y:Operand) (ho:o.op=.store ty x y)
  (g k:Nat) (bs:List UInt8) (hx:a.eval x=.pointer (some ⟨g,k,none⟩)) (hy:a.eval y=.agg (cellsOf bs).toArray)
  (ht:w.there g k bs.length) (hi:(Tryz.prog.info? ty).map (·.size)=some (cellsOf bs).length)
  (h:wpList Tryz.prog ops Q rest (a.put o.dst undef) (w.setCells g k (cellsOf bs))):wpList Tryz.prog ops Q (o::rest) a w :=
 wpList_store_mid hgd ty x y ho g k (cellsOf bs).toArray hx hy (by simpa [cellsOf_length] using ht) (by rw [hi];simp) (cells_all bs) h
theorem wp_store_arr {o:Oper} {a:Act} {w:World} {K:Act→World→Prop} {Q:Exit→Act→World→Prop} (ty:TypeId) (x y:Operand) (ho:o.op=.store ty x y) (hd:o.dst=none)
  (g k:Nat) (bs:List UInt8) (hx:a.eval x=.pointer (some ⟨g,k,none⟩)) (hy:a.eval y=bv bs)
  (ht:w.there g k bs.length) (hi:(Tryz.prog.info? ty).map (·.size)=some (cellsOf bs).length)
  (h:K a (w.setCells g k (cellsOf bs))):o.wp Tryz.prog a w K Q:=by
 refine wp_store_mid ty x y ho g k (cellsOf bs).toArray hx hy (by simpa [cellsOf_length] using ht) (by rw [hi];simp) (cells_all bs) ?_
 rw [hd]
 exact h
end Go.Proofs.YtbgkmicelmenfaaGreatDoor.A
namespace Go.Proofs.YtbgkmicelmenfaaGreatDoor.A
open Go.RowKit
set_option maxRecDepth 100000
theorem cf51 (vs:Array Value) (w:World):(callFunc 96 vs).run Tryz.prog w=.ok (.enter 96 vs) w:=by go_simp
theorem retXor {w:World} {xs ys:List UInt8} (e:Ending) (w':World) (h:∃ v,e=.returned (.tuple #[v,.bool true])∧Own w' w.heap.size v (xorL xs ys 16)∧Below w.heap.size w w') :
  ∃ u,e=.returned u∧Ext w w'∧K.holds (.bytb 16 (xorL xs ys 16) true) w' u:=by
 obtain ⟨v,rfl,ho,hb⟩:=h
 obtain ⟨A,c,rfl,hr,_⟩:=ho.rdn (xorL_length xs ys 16)
 exact ⟨_,rfl,hb,A,c,rfl,hr⟩
def z16:List UInt8:=List.replicate 16 0
theorem z16_length:z16.length=16:=by simp [z16]
theorem cells_z16:(cellsOf z16).toArray=#[.int .u8 0,.int .u8 0,.int .u8 0,.int .u8 0,.int .u8 0,.int .u8 0,.int .u8 0,.int .u8 0,.int .u8 0,.int .u8 0,.int .u8 0,.int .u8 0,.int .u8 0,.int .u8 0,.int .u8 0,.int .u8 0]:=rfl
def xorKs (xs ys:List UInt8):List K:=[.byt 16 (xs),.byt 16 (ys),.bytb 16 (xorL xs ys 16) true,.bytb 16 (xorL xs ys 16) true,.byt 16 (xorL xs ys 16),.eq (.bool true),.byt 16 (xorL xs ys 16),.eq (.bool true)]
set_option maxHeartbeats 4000000 in
theorem xored_any (xs ys:List UInt8) (w:World) (hx:xs.length=16) (hy:ys.length=16) :
  Calls Tryz.prog 117 #[bv xs,bv ys] w fun e w'=>e=.returned (bv (xorL xs ys 16))∧Ext w w':=by
 unfold bv
 go_enter Tryz.func117,Tryz.ntmps117
 go_wp2_with fail
 rw [← cells_z16]
 have h1:=RW.new w 133 xs
 have x1:=Ext.alloc w (.cells (cellsOf xs).toArray 133)
 obtain ⟨W1,hW1⟩:∃ W1,w.alloc (.cells (cellsOf xs).toArray 133)=W1:=⟨_,rfl⟩
 have z1:W1.heap.size=w.heap.size+1:=by rw [← hW1];simp
 rw [hW1] at h1 x1 ⊢
 have h2:=RW.new W1 133 ys
 have x2:=Ext.alloc W1 (.cells (cellsOf ys).toArray 133)
 obtain ⟨W2,hW2⟩:∃ W2,W1.alloc (.cells (cellsOf ys).toArray 133)=W2:=⟨_,rfl⟩
 have z2:W2.heap.size=w.heap.size+1+1:=by rw [← hW2,← z1];simp
 rw [hW2] at h2 x2 ⊢
 have h3:=RW.new W2 133 z16
 have x3:=Ext.alloc W2 (.cells (cellsOf z16).toArray 133)
 obtain ⟨W3,hW3⟩:∃ W3,W2.alloc (.cells (cellsOf z16).toArray 133)=W3:=⟨_,rfl⟩
 rw [hW3] at h3 x3 ⊢
 have h1:=(h1.later (by omega) x2).later (by omega) x3
 have h2:=h2.later (by omega) x3
 obtain ⟨G,hG⟩:∃ G,w.heap.size=G:=⟨_,rfl⟩
 rw [z1] at h2
 rw [z2] at h3
 have HXT:=hid ((x1.trans x2).trans x3)
 rw [hG] at h1 h2 h3 ⊢
 have HX:=hid h1
 have HY:=hid h2
 have HZ:=hid h3
 have HG:=hid hG
 clear hW1 hW2 hW3 z1 z2 x1 x2 x3 h1 h2 h3 hG
 refine region_inv mixed rfl (by kernel_rfl) (kV (xorKs xs ys)) (kV_keep _) (forall_ops ⟨?_,?_,?_,?_,?_,?_,?_,?_,trivial⟩) ?_
 ·intro a w hk
  have s2:a.tmps.getD 2 undef=.pointer (some ⟨G,0,none⟩):=hk.was 2 (by kernel_rfl) rfl
  refine step_val (v:=.slice (some ⟨G,0,none⟩) 16 16) (w':=w) rfl ?_ (Ext.refl w) ⟨_,_,rfl,((HX.out.later (by simp [*]) hk.ext).slice hx ((HX.out.later (by simp [*]) hk.ext).lt (by simp [*])))⟩
  go_simp
 ·intro a w hk
  have s3:a.tmps.getD 3 undef=.pointer (some ⟨G+1,0,none⟩):=hk.was 3 (by kernel_rfl) rfl
  refine step_val (v:=.slice (some ⟨G+1,0,none⟩) 16 16) (w':=w) rfl ?_ (Ext.refl w) ⟨_,_,rfl,((HY.out.later (by simp [*]) hk.ext).slice hy ((HY.out.later (by simp [*]) hk.ext).lt (by simp [*])))⟩
  go_simp
 ·intro a w hk
  obtain ⟨A8,c8,s8,r8⟩:=hk.byt_ 0 8 (by kernel_rfl) rfl
  obtain ⟨A9,c9,s9,r9⟩:=hk.byt_ 1 9 (by kernel_rfl) rfl
  exact step_call rfl rfl (by simp only [List.map_toArray,List.map_cons,List.map_nil,Act.eval,s8,s9]<;>rfl) cf51 (xor_eq A8 A9 16 c8 c9 xs ys w r8 r9 (by omega)) (fun e w1 h=>retXor e w1 h)
 ·intro a w hk
  obtain ⟨A10,c10,s10,r10⟩:=hk.val 2 10 (by kernel_rfl) rfl
  exact step_move rfl rfl s10 ⟨A10,c10,rfl,r10⟩
 ·intro a w hk
  obtain ⟨A7,c7,s7,r7⟩:=hk.val 3 7 (by kernel_rfl) rfl
  exact step_extract rfl rfl s7 rfl ⟨_,_,rfl,r7⟩
 ·intro a w hk
  obtain ⟨A7,c7,s7,r7⟩:=hk.val 3 7 (by kernel_rfl) rfl
  exact step_extract rfl rfl s7 rfl rfl
 ·intro a w hk
  obtain ⟨A11,c11,s11,r11⟩:=hk.byt_ 4 11 (by kernel_rfl) rfl
  exact step_assign rfl rfl s11 ⟨_,_,rfl,r11⟩
 ·intro a w hk
  have s12:=hk.eq_ 5 12 (by kernel_rfl) rfl
  exact step_assign rfl rfl s12 rfl
 ·intro a w1 hf
  obtain ⟨A8,c8,s8,r8⟩:=hf.val 0 8 (by kernel_rfl) rfl
  obtain ⟨A9,c9,s9,r9⟩:=hf.val 1 9 (by kernel_rfl) rfl
  obtain ⟨A10,c10,s10,r10⟩:=hf.val 2 10 (by kernel_rfl) rfl
  obtain ⟨A7,c7,s7,r7⟩:=hf.val 3 7 (by kernel_rfl) rfl
  obtain ⟨A11,c11,s11,r11⟩:=hf.val 4 11 (by kernel_rfl) rfl
  have s12:=hf.eq_ 5 12 (by kernel_rfl) rfl
  obtain ⟨A5,c5,s5,r5⟩:=hf.val 6 5 (by kernel_rfl) rfl
  have s6:=hf.eq_ 7 6 (by kernel_rfl) rfl
  have hx:=hf.ext
  have e:=hf.frame
  clear hf
  simp only [regFrame,Act.put,List.setIfInBounds_toArray,List.set_cons_zero,List.set_cons_succ,s8,s9,s10,s7,s11,s12,s5,s6] at e
  clear s8 s9 s10 s7 s11 s12 s5 s6
  subst e
  have HO:=hid (HZ.out.later (by simp [z16]) hx)
  obtain ⟨b,o,rfl,_,_⟩:=r5.at_ (by omega)
  have HR:=hid (rangeAt_of_rd r5)
  have HX1:=hid (Ext.trans HXT.out hx)
  have HZB:=hid (below_setCells (B:=w.heap.size) (b:=G+1+1) (a:=w) (by have:=HG.out;omega) (cellsOf (xorL xs ys 16)) 0 w1 HX1.out)
  have HST:=hid (HO.out.store0 (xorL xs ys 16) (by rw [xorL_length,z16_length]))
  have HSZ:=hid (size55' (xorL_length xs ys 16))
  have HTH:=hid (show w1.there (G+1+1) 0 (xorL xs ys 16).length by rw [xorL_length];exact HO.out.wr)
  clear hx r8 r9 r10 r7 r11 r5 HO
  go_wp2_with (first
   | (refine wpList_atp rfl 133 5 16 (.tmp 13) rfl (some ⟨b,o,none⟩) 16 c5 rfl Tryz.underlying133 (Nat.le_refl _) ?_)
   | (refine wpList_ld rfl 133 (.tmp 14) rfl b o rfl (xorL xs ys 16) HR.out Tryz.underlying133 HSZ.out ?_)
   | (refine wpList_st rfl 133 (.tmp 4) (.tmp 15) rfl (G+1+1) 0 (xorL xs ys 16) rfl rfl HTH.out HSZ.out ?_))
  refine ret_mid rfl rfl (G+1+1) (xorL xs ys 16) rfl HST.out.rd Tryz.underlying133 HSZ.out ⟨rfl,HZB.out⟩
end Go.Proofs.YtbgkmicelmenfaaGreatDoor.A
namespace Go.Proofs.YtbgkmicelmenfaaGreatDoor.A
open Go.RowKit
set_option maxRecDepth 100000
theorem run_index82 (w:World) (bs:List UInt8) (k:Nat) (h:bs.length=7) (hk:k < 7) :
  (Instr.index 236 (.agg (cellsOf bs).toArray) (.int .i64 k)).run Tryz.prog w=.ok (.int .u8 (nb bs k:Nat)) w:=by
 have hc:(cellsOf bs)[k]? = some (.int .u8 (byteAt bs k)):=cellsOf_get bs k (by omega)
 simp only [Instr.index,asIntOf,Sem.run_bind,Sem.run_pure,Result.andThen_ok,run_underlying Tryz.underlying236]
 rw [if_pos ⟨by omega,by omega⟩]
 simp [part,hc,byteAt_nb]
theorem run_index55 (w:World) (bs:List UInt8) (k:Nat) (h:bs.length=16) (hk:k < 16) :
  (Instr.index 133 (.agg (cellsOf bs).toArray) (.int .i64 k)).run Tryz.prog w=.ok (.int .u8 (nb bs k:Nat)) w:=by
 have hc:(cellsOf bs)[k]? = some (.int .u8 (byteAt bs k)):=cellsOf_get bs k (by omega)
 simp only [Instr.index,asIntOf,Sem.run_bind,Sem.run_pure,Result.andThen_ok,run_underlying Tryz.underlying133]
 rw [if_pos ⟨by omega,by omega⟩]
 simp [part,hc,byteAt_nb]
theorem sizeOf82' (w:World):(sizeOf 236).run Tryz.prog w=.ok 7 w:=by kernel_rfl
theorem run_index83 (w:World) (bs:List UInt8) (k:Nat) (_h:bs.length=112) (hk:k < 16) :
  (Instr.index 237 (.agg (cellsOf bs).toArray) (.int .i64 k)).run Tryz.prog w=.ok (.agg (cellsOf ((bs.drop (k*7)).take 7)).toArray) w:=by
 simp only [Instr.index,asIntOf,Sem.run_bind,Sem.run_pure,Result.andThen_ok,run_underlying Tryz.underlying237]
 rw [if_pos ⟨by omega,by omega⟩]
 simp only [part,Sem.run_bind,Tryz.isAgg236,sizeOf82',Result.andThen_ok,Sem.run_pure,Int.toNat_natCast,if_true]
 congr 2
 apply Array.toList_inj.1
 simp [cellsOf,List.map_drop,List.map_take,List.extract_eq_take_drop]
def sevB:List UInt8:=sevT.flatten.map UInt8.ofNat
theorem sevB_length:sevB.length=112:=by decide +kernel
def sevR (i:Nat):List UInt8:=(sevB.drop (i*7)).take 7
theorem sevR_length:∀ i < 16,(sevR i).length=7:=by decide +kernel
theorem sevR_nb:∀ i < 16,∀ k < 7,nb (sevR i) k=sevN i k:=by decide +kernel
def Sev (w:World):Prop:=w.rangeAt 5 0 (cellsOf sevB)
theorem rangeAt_later {w w':World} {g o:Nat} {cs:List Value} (h:w.rangeAt g o cs) (hx:Ext w w'):w'.rangeAt g o cs:=fun j v hv=>by
 have h1:=h j v hv
 exact (Below.cell hx (p:=⟨g,o+j,none⟩) (World.block_lt_of_cell? w _ h1)).trans h1
theorem Sev.later {w w':World} (h:Sev w) (hx:Ext w w'):Sev w':=rangeAt_later h hx
def z7:List UInt8:=List.replicate 7 0
theorem cells_z7:(cellsOf z7).toArray=#[.int .u8 0,.int .u8 0,.int .u8 0,.int .u8 0,.int .u8 0,.int .u8 0,.int .u8 0]:=rfl
def mixS (b:List UInt8) (i k:Nat):List UInt8:=(List.range 16).map fun j=>if j < i then mixF b j else if j=i then mixK b i k else 0
theorem mixS_length (b:List UInt8) (i k:Nat):(mixS b i k).length=16:=by simp [mixS]
theorem mixS_zero (b:List UInt8):mixS b 0 0=z16:=by
 apply List.ext_getElem
 ·simp [mixS,z16]
 ·intro j h1 h2
  simp only [mixS,z16,List.getElem_map,List.getElem_range,List.getElem_replicate,Nat.not_lt_zero,if_false]
  split<;>rfl
theorem mixS_next (b:List UInt8) (i:Nat):mixS b i 7=mixS b (i+1) 0:=by
 refine List.map_congr_left fun j _=>?_
 by_cases h1:j < i
 ·rw [if_pos h1,if_pos (by omega)]
 ·by_cases h2:j=i
  ·subst h2;rw [if_neg h1,if_pos rfl,if_pos (by omega)];rfl
  ·rw [if_neg h1,if_neg h2,if_neg (by omega)];split<;>rfl
theorem mixS_full (b:List UInt8):mixS b 16 0=mixL b:=by
 refine List.map_congr_left fun j hj=>?_
 rw [if_pos (List.mem_range.1 hj)]
theorem mixS_at (b:List UInt8) (i k:Nat) (hi:i < 16):(mixS b i k).getD i 0=mixK b i k:=by
 simp [mixS,List.getD_eq_getElem?_getD,hi]
theorem mixS_set (b:List UInt8) (i k:Nat) (_hi:i < 16):(mixS b i k).set i (mixK b i (k+1))=mixS b i (k+1):=by
 apply List.ext_getElem
 ·simp [mixS]
 ·intro j h1 h2
  simp only [List.getElem_set,mixS,List.getElem_map,List.getElem_range]
  by_cases e:i=j
  ·subst e;simp
  ·rw [if_neg e]
   by_cases h3:j < i
   ·rw [if_pos h3,if_pos h3]
   ·rw [if_neg h3,if_neg h3,if_neg (Ne.symm e),if_neg (Ne.symm e)]
theorem u8_xor_val (x y:UInt8):bits .xor .u8 (x.toNat:Int) (y.toNat:Int)=((x ^^^ y).toNat:Int):=by
 rw [UInt8.toNat_xor,u8_xor_nat _ _ (UInt8.toNat_lt _) (UInt8.toNat_lt _)]
set_option maxHeartbeats 4000000 in
theorem mixed_any (bs:List UInt8) (w:World) (hb:bs.length=16) (hs:Sev w) :
  Calls Tryz.prog 120 #[bv bs] w fun e w'=>e=.returned (bv (mixL bs))∧Ext w w':=by
 unfold bv
 have hlt3:5 < w.heap.size:=World.block_lt_of_cell? w _ (hs 0 _ (cellsOf_get sevB 0 (by rw [sevB_length];omega)))
 have HS83:=hid (size83' sevB_length)
 have h1:=RW.new w 133 bs
 have x1:=Ext.alloc w (.cells (cellsOf bs).toArray 133)
 obtain ⟨W1,hW1⟩:∃ W1,w.alloc (.cells (cellsOf bs).toArray 133)=W1:=⟨_,rfl⟩
 have z1:W1.heap.size=w.heap.size+1:=by rw [← hW1];simp
 have h2:=RW.new W1 133 z16
 have x2:=Ext.alloc W1 (.cells (cellsOf z16).toArray 133)
 obtain ⟨W2,hW2⟩:∃ W2,W1.alloc (.cells (cellsOf z16).toArray 133)=W2:=⟨_,rfl⟩
 have z2:W2.heap.size=w.heap.size+1+1:=by rw [← hW2,← z1];simp
 have h3:=RW.new W2 133 z16
 have x3:=Ext.alloc W2 (.cells (cellsOf z16).toArray 133)
 obtain ⟨W3,hW3⟩:∃ W3,W2.alloc (.cells (cellsOf z16).toArray 133)=W3:=⟨_,rfl⟩
 rw [hW1] at h1 x1
 rw [hW2] at h2 x2
 rw [hW3] at h3 x3
 have h1:=(h1.later (by omega) x2).later (by omega) x3
 have h2:=h2.later (by rw [z16_length];omega) x3
 have hs3:=((hs.later x1).later x2).later x3
 obtain ⟨G,hG⟩:∃ G,w.heap.size=G:=⟨_,rfl⟩
 rw [z1] at h2
 rw [z2] at h3
 have HXT:=hid ((x1.trans x2).trans x3)
 rw [hG] at h1 h2 h3
 have HX:=hid h1
 have HR:=hid h2
 have HO:=hid h3
 have HSV:=hid hs3
 have HG:=hid hG
 have HW:=hid (And.intro hW1 (And.intro hW2 hW3))
 clear hW1 hW2 hW3 z1 z2 x1 x2 x3 h1 h2 h3 hs3 hs hG
 go_enter Tryz.func120,Tryz.ntmps120
 go_wp2_with (first
  | (rw [← cells_z16,HW.out.1,HW.out.2.1,HW.out.2.2,HG.out];clear HW;refine wpList_ld rfl 237 (.global 5) rfl 5 0 rfl sevB HSV.out Tryz.underlying237 HS83.out ?_))
 go_loopw [9] (fun v wr=>∃ i:Nat,i≤16∧v=.int .i64 i∧RW wr G 0 bs∧RW wr (G+1) 0 z16∧RW wr (G+1+1) 0 (mixS bs i 0)∧Ext w wr) (fun v _=>16 - (intOf v).toNat)
 case atStart=>exact ⟨0,by omega,rfl,HX.out,HR.out,by rw [mixS_zero];exact HO.out,HXT.out⟩
 case round =>
  clear HX HR HO HXT HSV
  obtain ⟨i,hi,rfl,hX,hR,hO,hx⟩:=hrel
  by_cases hlt:i < 16
  ·have HI:=hid hlt
   have HL7:=hid (sevR_length i hlt)
   have h5:=RW.new wr 236 z7
   have x5:=Ext.alloc wr (.cells (cellsOf z7).toArray 236)
   obtain ⟨W5,hW5⟩:∃ W5,wr.alloc (.cells (cellsOf z7).toArray 236)=W5:=⟨_,rfl⟩
   rw [hW5] at h5 x5
   obtain ⟨S,hS⟩:∃ S,wr.heap.size=S:=⟨_,rfl⟩
   rw [hS] at h5
   have gx:=hX.lt (by omega)
   have gr:=hR.lt (by rw [z16_length];omega)
   have go:=hO.lt (by rw [mixS_length];omega)
   rw [hS] at gx gr go
   have hX:=(hX.later (by omega) x5).apart S 0 (cellsOf (sevR i)) (by omega)
   have hR:=(hR.later (by rw [z16_length];omega) x5).apart S 0 (cellsOf (sevR i)) (by omega)
   have hO:=(hO.later (by rw [mixS_length];omega) x5).apart S 0 (cellsOf (sevR i)) (by omega)
   have h6:=h5.store0 (sevR i) (by rw [HL7.out];rfl)
   have hx5:=hx.trans x5
   have hx6:=below_setCells (B:=w.heap.size) (b:=S) (a:=w) (by have:=HG.out;omega) (cellsOf (sevR i)) 0 W5 hx5
   have HTH:=hid (show W5.there S 0 (sevR i).length by rw [HL7.out];exact h5.wr)
   obtain ⟨W6,hW6⟩:∃ W6,W5.setCells S 0 (cellsOf (sevR i))=W6:=⟨_,rfl⟩
   rw [hW6] at hX hR hO h6 hx6
   have HQ:=hid (And.intro hX (And.intro hR (And.intro hO hx6)))
   have H6:=hid h6
   have HW:=hid (And.intro hW5 (And.intro hS hW6))
   have HSZ:=hid (size82' HL7.out)
   clear hX hR hO hx6 hx h6 h5 hx5 x5 hW5 hW6 hS gx gr go
   go_wp2_with fail
   rw [run_index83 _ _ i sevB_length hlt]
   simp only [Result.andThen]
   rw [Oper.upon_value]
   rw [show (sevB.drop (i*7)).take 7=sevR i from rfl]
   go_wp2_with (first
    | (rw [← cells_z7,HW.out.1,HW.out.2.1];refine wpList_st rfl 236 (.tmp 5) (.tmp 12) rfl S 0 (sevR i) rfl rfl HTH.out HSZ.out ?_;rw [HW.out.2.2];clear HW HTH)
    | (refine wpList_ld rfl 236 (.tmp 5) rfl S 0 rfl (sevR i) H6.out.rd Tryz.underlying236 HSZ.out ?_))
   clear H6
   go_loopw [14] (fun v wr=>∃ k:Nat,k≤7∧v=.int .i64 k∧RW wr G 0 bs∧RW wr (G+1) 0 z16∧RW wr (G+1+1) 0 (mixS bs i k)∧Ext w wr) (fun v _=>7 - (intOf v).toNat)
   case atStart=>exact ⟨0,by omega,rfl,HQ.out⟩
   case round =>
    clear HQ
    obtain ⟨k,hk,rfl,hX,hR,hO,hx⟩:=hrel
    by_cases hkt:k < 7
    ·have hv:=sevN_lt i hlt k hkt
     have hc1:=hX.cell (sevN i k) (by omega)
     have hc2:=hO.cell i (by rw [mixS_length];exact hlt)
     have hf2:=hO.free i (by rw [mixS_length];exact hlt)
     rw [Nat.zero_add] at hc1 hc2 hf2
     have e2:byteAt (mixS bs i k) i=((mixK bs i k).toNat:Int):=by unfold byteAt;rw [mixS_at bs i k hlt]
     have hset:=hO.set_ i (by rw [mixS_length];exact hlt) (mixK bs i (k+1))
     rw [mixS_set bs i k hlt,Nat.zero_add] at hset
     have e3:((mixK bs i (k+1)).toNat:Int)=bits .xor .u8 ((mixK bs i k).toNat:Int) (byteAt bs (sevN i k)):=by
      rw [show byteAt bs (sevN i k)=((bs.getD (sevN i k) 0).toNat:Int) from rfl,u8_xor_val];rfl
     rw [e3] at hset
     rw [e2] at hc2
     have hX2:=hX.apart1 ⟨G+1+1,i,none⟩ (.int .u8 (bits .xor .u8 ((mixK bs i k).toNat:Int) (byteAt bs (sevN i k)))) (by simp;omega)
     have hR2:=hR.apart1 ⟨G+1+1,i,none⟩ (.int .u8 (bits .xor .u8 ((mixK bs i k).toNat:Int) (byteAt bs (sevN i k)))) (by simp)
     have hx2:=hx.setCell (p:=⟨G+1+1,i,none⟩) (by have:=HG.out;simp;omega) (.int .u8 (bits .xor .u8 ((mixK bs i k).toNat:Int) (byteAt bs (sevN i k))))
     have b1:=byteAt_lo bs (sevN i k)
     have b2:=byteAt_hi bs (sevN i k)
     have b3:=(mixK bs i k).toNat_lt
     obtain ⟨M,hM⟩:∃ M:Nat,(mixK bs i k).toNat=M:=⟨_,rfl⟩
     obtain ⟨V,hV⟩:∃ V,sevN i k=V:=⟨_,rfl⟩
     have HN:=hid (show nb (sevR i) k=V by rw [sevR_nb i hlt k hkt,hV])
     rw [hM] at hc2 hset hX2 hR2 hx2 b3
     rw [hV] at hc1 hset hX2 hR2 hx2 b1 b2 hv
     have HQ:=hid (And.intro hX2 (And.intro hR2 (And.intro hset hx2)))
     clear hX hR hO hx hset hX2 hR2 hx2 e2 e3 hM hV
     go_wp2_with fail
     rw [run_index82 _ _ k HL7.out hkt,HN.out]
     simp only [Result.andThen]
     rw [Oper.upon_value]
     go_wp2_with fail
     go_region
     go_wp2_with fail
     go_roundw
     case rel=>exact ⟨k+1,by omega,by go_num,HQ.out.1.drew,HQ.out.2.1.drew,HQ.out.2.2.1.drew,HQ.out.2.2.2.drew⟩
     case measure=>simp [intOf];omega
    ·obtain rfl:k=7:=by omega
     rw [mixS_next] at hO
     have HQ:=hid (And.intro hX (And.intro hR (And.intro hO hx)))
     clear hX hR hO hx
     go_wp2_with fail
     go_roundw
     case rel=>exact ⟨i+1,by omega,by go_num,HQ.out⟩
     case measure=>simp [intOf];omega
  ·obtain rfl:i=16:=by omega
   rw [mixS_full] at hO
   have hS:=hR.store0 (mixL bs) (by rw [mixL_length,z16_length])
   have hx2:=below_setCells (B:=w.heap.size) (b:=G+1) (a:=w) (by have:=HG.out;omega) (cellsOf (mixL bs)) 0 wr hx
   have HO:=hid hO.rd
   have HS:=hid hS.rd
   have HX2:=hid hx2
   have HSZ:=hid (size55' (mixL_length bs))
   have HTH:=hid (show wr.there (G+1) 0 (mixL bs).length by rw [mixL_length];exact hR.wr)
   clear hX hR hO hx hS hx2
   go_wp2_with (first
    | (refine wpList_ld rfl 133 (.tmp 3) rfl (G+1+1) 0 rfl (mixL bs) HO.out Tryz.underlying133 HSZ.out ?_)
    | (refine wpList_st rfl 133 (.tmp 2) (.tmp 27) rfl (G+1) 0 (mixL bs) rfl rfl HTH.out HSZ.out ?_))
   refine ret_mid rfl rfl (G+1) (mixL bs) rfl HS.out Tryz.underlying133 HSZ.out ⟨rfl,HX2.out⟩
end Go.Proofs.YtbgkmicelmenfaaGreatDoor.A
namespace Go.Proofs.YtbgkmicelmenfaaGreatDoor.A
open Go.RowKit
set_option maxRecDepth 100000
def tabB:List UInt8:=S1++S2++X1++X2
theorem tabB_length:tabB.length=1024:=by decide +kernel
theorem tabB_at:∀ q < 4,∀ x < 256,nb tabB (q*256+x)=nb (tabT q) x:=by decide +kernel
def TB (w:World) (g:Nat):Prop:=w.rangeAt g 0 (cellsOf tabB)
theorem TB.later {w w':World} {g:Nat} (h:TB w g) (hx:Ext w w'):TB w' g:=rangeAt_later h hx
theorem TB.lt {w:World} {g:Nat} (h:TB w g):g < w.heap.size:=World.block_lt_of_cell? w _ (h 0 _ (cellsOf_get tabB 0 (by rw [tabB_length];omega)))
def layS (which:Nat) (b:List UInt8) (i:Nat):List UInt8:=(List.range 16).map fun j=>if j < i then layF which b j else b.getD j 0
theorem layS_length (which:Nat) (b:List UInt8) (i:Nat):(layS which b i).length=16:=by simp [layS]
theorem layS_zero (which:Nat) (b:List UInt8) (h:b.length=16):layS which b 0=b:=by
 apply List.ext_getElem
 ·simp [layS,h]
 ·intro j h1 h2
  simp [layS,h2]
theorem layS_full (which:Nat) (b:List UInt8):layS which b 16=layL which b:=by
 refine List.map_congr_left fun j hj=>?_
 rw [if_pos (List.mem_range.1 hj)]
theorem layS_set (which:Nat) (b:List UInt8) (i:Nat) (_hi:i < 16):(layS which b i).set i (layF which b i)=layS which b (i+1):=by
 apply List.ext_getElem
 ·simp [layS]
 ·intro j h1 h2
  simp only [List.getElem_set,layS,List.getElem_map,List.getElem_range]
  by_cases e:i=j
  ·subst e;simp
  ·rw [if_neg e]
   by_cases h3:j < i
   ·rw [if_pos h3,if_pos (by omega)]
   ·rw [if_neg h3,if_neg (by omega)]
set_option maxHeartbeats 4000000 in
theorem layer_any (g which:Nat) (bs:List UInt8) (w:World) (hw:which=1∨which=2) (hb:bs.length=16) (ht:TB w g) :
  Calls Tryz.prog 174 #[.pointer (some ⟨g,0,none⟩),.int .i64 which,bv bs] w fun e w'=>e=.returned (bv (layL which bs))∧Ext w w':=by
 unfold bv
 have HT:=hid ht
 have h1:=RW.new w 133 bs
 have x1:=Ext.alloc w (.cells (cellsOf bs).toArray 133)
 obtain ⟨W1,hW1⟩:∃ W1,w.alloc (.cells (cellsOf bs).toArray 133)=W1:=⟨_,rfl⟩
 have z1:W1.heap.size=w.heap.size+1:=by rw [← hW1];simp
 have h2:=RW.new W1 133 z16
 have x2:=Ext.alloc W1 (.cells (cellsOf z16).toArray 133)
 obtain ⟨W2,hW2⟩:∃ W2,W1.alloc (.cells (cellsOf z16).toArray 133)=W2:=⟨_,rfl⟩
 rw [hW1] at h1 x1
 rw [hW2] at h2 x2
 have h1:=h1.later (by omega) x2
 obtain ⟨G,hG⟩:∃ G,w.heap.size=G:=⟨_,rfl⟩
 rw [z1] at h2
 have HXT:=hid (x1.trans x2)
 rw [hG] at h1 h2
 have HX:=hid h1
 have HR:=hid h2
 have HG:=hid hG
 have HW:=hid (And.intro hW1 hW2)
 have HSZ:=hid (size55' hb)
 clear hW1 hW2 z1 x1 x2 h1 h2 ht hG
 rcases hw with rfl | rfl
 ·go_enter Tryz.func174,Tryz.ntmps174
  go_wp2_with (first
   | (refine wpList_ld rfl 133 (.tmp 5) rfl G 0 rfl bs HX.out.rd Tryz.underlying133 HSZ.out ?_)
   | (rw [← cells_z16,HW.out.1,HW.out.2,HG.out];clear HW))
  go_loopw [14] (fun v wr=>∃ i:Nat,i≤16∧v=.int .i64 i∧RW wr G 0 (layS 1 bs i)∧RW wr (G+1) 0 z16∧Ext w wr) (fun v _=>16 - (intOf v).toNat)
  case atStart=>exact ⟨0,by omega,rfl,by rw [layS_zero _ _ hb];exact HX.out,HR.out,HXT.out⟩
  case round =>
   clear HX HR HXT
   obtain ⟨i,hi,rfl,hX,hR,hx⟩:=hrel
   by_cases hlt:i < 16
   ·have ht:=rangeAt_later HT.out hx
    obtain ⟨q,hq⟩:∃ q,(0+i) % 4=q:=⟨_,rfl⟩
    have hq4:q < 4:=by omega
    have htm:(i:Int).tmod 4=(q:Int):=by rw [Int.tmod_eq_emod_of_nonneg (by omega)];omega
    have hvl:=nb_lt bs i
    have hcT:wr.cell? ⟨g,q*256+nb bs i,none⟩=some (.int .u8 ((layF 1 bs i).toNat:Int)):=by
     have h1:=ht (q*256+nb bs i) _ (cellsOf_get tabB _ (by rw [tabB_length];omega))
     rw [Nat.zero_add] at h1
     rw [h1,byteAt_nb,tabB_at q hq4 _ hvl]
     unfold layF nb
     rw [show (2*(1 - 1)+i) % 4=q from hq]
    have hset:=hX.set_ i (by rw [layS_length];exact hlt) (layF 1 bs i)
    rw [layS_set 1 bs i hlt,Nat.zero_add] at hset
    have hcX:=hX.cell i (by rw [layS_length];exact hlt)
    have hfX:=hX.free i (by rw [layS_length];exact hlt)
    rw [Nat.zero_add] at hcX hfX
    have hR2:=hR.apart1 ⟨G,i,none⟩ (.int .u8 ((layF 1 bs i).toNat:Int)) (by simp)
    have hx2:=hx.setCell (p:=⟨G,i,none⟩) (by have:=HG.out;simp;omega) (.int .u8 ((layF 1 bs i).toNat:Int))
    obtain ⟨V,hV⟩:∃ V,nb bs i=V:=⟨_,rfl⟩
    have HN:=hid hV
    rw [hV] at hcT hvl
    have hL:=(layF 1 bs i).toNat_lt
    obtain ⟨M,hM⟩:∃ M:Nat,(layF 1 bs i).toNat=M:=⟨_,rfl⟩
    rw [hM] at hcT hset hR2 hx2 hL
    have HQ:=hid (And.intro hset (And.intro hR2 hx2))
    clear hX hR hx hset hR2 hx2 ht hV hM hq
    go_wp2_with fail
    rw [run_index55 _ _ i hb hlt,HN.out]
    simp only [Result.andThen]
    rw [Oper.upon_value]
    go_wp2_with fail
    go_roundw
    case rel=>exact ⟨i+1,by omega,by go_num,HQ.out⟩
    case measure=>simp [intOf];omega
   ·obtain rfl:i=16:=by omega
    rw [layS_full] at hX
    have hS:=hR.store0 (layL 1 bs) (by rw [layL_length,z16_length])
    have hx2:=below_setCells (B:=w.heap.size) (b:=G+1) (a:=w) (by have:=HG.out;omega) (cellsOf (layL 1 bs)) 0 wr hx
    have HO:=hid hX.rd
    have HS:=hid hS.rd
    have HX2:=hid hx2
    have HSZ:=hid (size55' (layL_length 1 bs))
    have HTH:=hid (show wr.there (G+1) 0 (layL 1 bs).length by rw [layL_length];exact hR.wr)
    clear hX hR hx hS hx2
    go_wp2_with (first
     | (refine wpList_ld rfl 133 (.tmp 5) rfl G 0 rfl (layL 1 bs) HO.out Tryz.underlying133 HSZ.out ?_)
     | (refine wpList_st rfl 133 (.tmp 6) (.tmp 31) rfl (G+1) 0 (layL 1 bs) rfl rfl HTH.out HSZ.out ?_))
    refine ret_mid rfl rfl (G+1) (layL 1 bs) rfl HS.out Tryz.underlying133 HSZ.out ⟨rfl,HX2.out⟩
 ·go_enter Tryz.func174,Tryz.ntmps174
  go_wp2_with (first
   | (refine wpList_ld rfl 133 (.tmp 5) rfl G 0 rfl bs HX.out.rd Tryz.underlying133 HSZ.out ?_)
   | (rw [← cells_z16,HW.out.1,HW.out.2,HG.out];clear HW))
  go_loopw [14] (fun v wr=>∃ i:Nat,i≤16∧v=.int .i64 i∧RW wr G 0 (layS 2 bs i)∧RW wr (G+1) 0 z16∧Ext w wr) (fun v _=>16 - (intOf v).toNat)
  case atStart=>exact ⟨0,by omega,rfl,by rw [layS_zero _ _ hb];exact HX.out,HR.out,HXT.out⟩
  case round =>
   clear HX HR HXT
   obtain ⟨i,hi,rfl,hX,hR,hx⟩:=hrel
   by_cases hlt:i < 16
   ·have ht:=rangeAt_later HT.out hx
    obtain ⟨q,hq⟩:∃ q,(2+i) % 4=q:=⟨_,rfl⟩
    have hq4:q < 4:=by omega
    have htm:(2+(i:Int)).tmod 4=(q:Int):=by rw [Int.tmod_eq_emod_of_nonneg (by omega)];omega
    have hvl:=nb_lt bs i
    have hcT:wr.cell? ⟨g,q*256+nb bs i,none⟩=some (.int .u8 ((layF 2 bs i).toNat:Int)):=by
     have h1:=ht (q*256+nb bs i) _ (cellsOf_get tabB _ (by rw [tabB_length];omega))
     rw [Nat.zero_add] at h1
     rw [h1,byteAt_nb,tabB_at q hq4 _ hvl]
     unfold layF nb
     rw [show (2*(2 - 1)+i) % 4=q from hq]
    have hset:=hX.set_ i (by rw [layS_length];exact hlt) (layF 2 bs i)
    rw [layS_set 2 bs i hlt,Nat.zero_add] at hset
    have hcX:=hX.cell i (by rw [layS_length];exact hlt)
    have hfX:=hX.free i (by rw [layS_length];exact hlt)
    rw [Nat.zero_add] at hcX hfX
    have hR2:=hR.apart1 ⟨G,i,none⟩ (.int .u8 ((layF 2 bs i).toNat:Int)) (by simp)
    have hx2:=hx.setCell (p:=⟨G,i,none⟩) (by have:=HG.out;simp;omega) (.int .u8 ((layF 2 bs i).toNat:Int))
    obtain ⟨V,hV⟩:∃ V,nb bs i=V:=⟨_,rfl⟩
    have HN:=hid hV
    rw [hV] at hcT hvl
    have hL:=(layF 2 bs i).toNat_lt
    obtain ⟨M,hM⟩:∃ M:Nat,(layF 2 bs i).toNat=M:=⟨_,rfl⟩
    rw [hM] at hcT hset hR2 hx2 hL
    have HQ:=hid (And.intro hset (And.intro hR2 hx2))
    clear hX hR hx hset hR2 hx2 ht hV hM hq
    go_wp2_with fail
    rw [run_index55 _ _ i hb hlt,HN.out]
    simp only [Result.andThen]
    rw [Oper.upon_value]
    go_wp2_with fail
    go_roundw
    case rel=>exact ⟨i+1,by omega,by go_num,HQ.out⟩
    case measure=>simp [intOf];omega
   ·obtain rfl:i=16:=by omega
    rw [layS_full] at hX
    have hS:=hR.store0 (layL 2 bs) (by rw [layL_length,z16_length])
    have hx2:=below_setCells (B:=w.heap.size) (b:=G+1) (a:=w) (by have:=HG.out;omega) (cellsOf (layL 2 bs)) 0 wr hx
    have HO:=hid hX.rd
    have HS:=hid hS.rd
    have HX2:=hid hx2
    have HSZ:=hid (size55' (layL_length 2 bs))
    have HTH:=hid (show wr.there (G+1) 0 (layL 2 bs).length by rw [layL_length];exact hR.wr)
    clear hX hR hx hS hx2
    go_wp2_with (first
     | (refine wpList_ld rfl 133 (.tmp 5) rfl G 0 rfl (layL 2 bs) HO.out Tryz.underlying133 HSZ.out ?_)
     | (refine wpList_st rfl 133 (.tmp 6) (.tmp 31) rfl (G+1) 0 (layL 2 bs) rfl rfl HTH.out HSZ.out ?_))
    refine ret_mid rfl rfl (G+1) (layL 2 bs) rfl HS.out Tryz.underlying133 HSZ.out ⟨rfl,HX2.out⟩
end Go.Proofs.YtbgkmicelmenfaaGreatDoor.A
namespace Go.Proofs.YtbgkmicelmenfaaGreatDoor.A
open Go.RowKit
set_option maxRecDepth 100000
set_option maxHeartbeats 4000000 in
theorem step_any (g i:Nat) (b k:List UInt8) (w:World) (hb:b.length=16) (hk:k.length=16) (hi:i≤1000) (ht:TB w g) :
  Calls Tryz.prog 121 #[.pointer (some ⟨g,0,none⟩),.int .i64 i,bv b,bv k] w fun e w'=>e=.returned (bv (stepL i b k))∧Ext w w':=by
 have hgw:=ht.lt
 have HI:=hid hi
 unfold bv
 have h1:=RW.new w 133 b
 have x1:=Ext.alloc w (.cells (cellsOf b).toArray 133)
 obtain ⟨W1,hW1⟩:∃ W1,w.alloc (.cells (cellsOf b).toArray 133)=W1:=⟨_,rfl⟩
 have z1:W1.heap.size=w.heap.size+1:=by rw [← hW1];simp
 have h2:=RW.new W1 133 k
 have x2:=Ext.alloc W1 (.cells (cellsOf k).toArray 133)
 obtain ⟨W2,hW2⟩:∃ W2,W1.alloc (.cells (cellsOf k).toArray 133)=W2:=⟨_,rfl⟩
 have z2:W2.heap.size=w.heap.size+1+1:=by rw [← hW2,← z1];simp
 have h3:=RW.new W2 133 z16
 have x3:=Ext.alloc W2 (.cells (cellsOf z16).toArray 133)
 obtain ⟨W3,hW3⟩:∃ W3,W2.alloc (.cells (cellsOf z16).toArray 133)=W3:=⟨_,rfl⟩
 rw [hW1] at h1 x1
 rw [hW2] at h2 x2
 rw [hW3] at h3 x3
 have h1:=(h1.later (by omega) x2).later (by omega) x3
 have h2:=h2.later (by omega) x3
 obtain ⟨G,hG⟩:∃ G,w.heap.size=G:=⟨_,rfl⟩
 rw [z1] at h2
 rw [z2] at h3
 have hx:=(x1.trans x2).trans x3
 have HT:=hid (ht.later hx)
 have HXT:=hid hx
 rw [hG] at h1 h2 h3
 have HX:=hid h1
 have HY:=hid h2
 have HR:=hid h3
 have HG:=hid hG
 have HW:=hid (And.intro hW1 (And.intro hW2 hW3))
 have HSB:=hid (size55' hb)
 have HSK:=hid (size55' hk)
 have HSO:=hid (size55' (stepL_length i b k))
 obtain ⟨r,hr⟩:∃ r,i % 2=r:=⟨_,rfl⟩
 have hr2:r < 2:=by omega
 have htm:(i:Int).tmod 2=(r:Int):=by rw [Int.tmod_eq_emod_of_nonneg (by omega)];omega
 have HSL:=hid (show stepL i b k=layL (1+r) (xorL b k 16) by rw [stepL,hr])
 clear hW1 hW2 hW3 z1 z2 x1 x2 x3 h1 h2 h3 hG hx ht hr hi hgw
 go_enter Tryz.func121,Tryz.ntmps121
 go_wp2_with (first
  | (rw [← cells_z16,HW.out.1,HW.out.2.1,HW.out.2.2,HG.out];clear HW;refine wpList_ld rfl 133 (.tmp 6) rfl G 0 rfl b HX.out.rd Tryz.underlying133 HSB.out ?_)
  | (refine wpList_ld rfl 133 (.tmp 6) rfl G 0 rfl b HX.out.rd Tryz.underlying133 HSB.out ?_)
  | (refine wpList_ld rfl 133 (.tmp 7) rfl (G+1) 0 rfl k HY.out.rd Tryz.underlying133 HSK.out ?_))
 refine (xored_any b k _ hb hk).mono ?_
 rintro e w1 ⟨rfl,hx1⟩
 have HC:=hid (layer_any g (1+r) (xorL b k 16) w1 (by omega) (xorL_length _ _ _) (HT.out.later hx1))
 have HX1:=hid hx1
 clear hx1
 go_wp2_with fail
 refine HC.out.mono ?_
 rintro e w2 ⟨rfl,hx2⟩
 rw [← HSL.out]
 have hxx:=Ext.trans HX1.out hx2
 have hr:=HR.out.later (by rw [z16_length];omega) hxx
 have HS:=hid (hr.store0 (stepL i b k) (by rw [stepL_length,z16_length])).rd
 have HXE:=hid (below_setCells (B:=w.heap.size) (b:=G+1+1) (a:=w) (by have:=HG.out;omega) (cellsOf (stepL i b k)) 0 w2 (Ext.trans HXT.out hxx))
 have HTH:=hid (show w2.there (G+1+1) 0 (stepL i b k).length by rw [stepL_length];exact hr.wr)
 clear hx2 hxx hr HC
 go_wp2_with (refine wpList_st rfl 133 (.tmp 8) (.tmp 16) rfl (G+1+1) 0 (stepL i b k) rfl rfl HTH.out HSO.out ?_)
 refine ret_mid rfl rfl (G+1+1) (stepL i b k) rfl HS.out Tryz.underlying133 HSO.out ⟨rfl,HXE.out⟩
end Go.Proofs.YtbgkmicelmenfaaGreatDoor.A
namespace Go.Proofs.YtbgkmicelmenfaaGreatDoor.A
open Go.RowKit
set_option maxRecDepth 100000
def RowsB (w:World) (b o:Nat) (ls:List (List UInt8)):Prop :=
 ∀ i,i < ls.length→∃ A c,w.cell? ⟨b,o+i,none⟩=some (.slice A (ls.getD i []).length c)∧Rd w w.heap.size A (ls.getD i []).length (ls.getD i [])
theorem RowsB.later {w w':World} {b o:Nat} {ls:List (List UInt8)} (h:RowsB w b o ls) (hx:Ext w w'):RowsB w' b o ls:=fun i hi=>by
 obtain ⟨A,c,h1,h2⟩:=h i hi
 exact ⟨A,c,(Below.cell hx (p:=⟨b,o+i,none⟩) (World.block_lt_of_cell? w _ h1)).trans h1,h2.later hx⟩
def lenTo {α:Type} (ls:List (List α)) (k:Nat):Nat:=(ls.take k).flatten.length
theorem take_more {α:Type} (ls:List (List α)) (k:Nat) (h:k < ls.length):(ls.take (k+1)).flatten=(ls.take k).flatten++ls.getD k []:=by
 rw [List.take_succ_eq_append_getElem h,List.flatten_append,getD_eq _ _ _ h];simp
theorem lenTo_succ {α:Type} (ls:List (List α)) (k:Nat) (h:k < ls.length):lenTo ls (k+1)=lenTo ls k+(ls.getD k []).length:=by
 unfold lenTo;rw [take_more ls k h,List.length_append]
theorem lenTo_le {α:Type} (ls:List (List α)) (k:Nat) (_h:k < ls.length):lenTo ls (k+1)≤ls.flatten.length:=by
 unfold lenTo
 have e:ls.flatten=(ls.take (k+1)).flatten++(ls.drop (k+1)).flatten:=by rw [← List.flatten_append,List.take_append_drop]
 rw [e,List.length_append];omega
theorem lenTo_all {α:Type} (ls:List (List α)):lenTo ls ls.length=ls.flatten.length:=by unfold lenTo;rw [List.take_length]
theorem cell_lit (w:World) (vs:List Value) (e:TypeId) (i:Nat) (v:Value) (h:vs[i]? = some v):(w.alloc (.cells vs.toArray e)).cell? ⟨w.heap.size,0+i,none⟩=some v:=by
 rw [Nat.zero_add,cell_of_row _ _ _ _ _ _ (heap_alloc_new w (.cells vs.toArray e))]
 simpa using h
theorem RowsB.lit (w:World) (vs:List Value) (e:TypeId) (ls:List (List UInt8)) (h:∀ i,i < ls.length→∃ A c,vs[i]? = some (.slice A (ls.getD i []).length c)∧Rd w w.heap.size A (ls.getD i []).length (ls.getD i [])) :
  RowsB (w.alloc (.cells vs.toArray e)) w.heap.size 0 ls:=fun i hi=>by
 obtain ⟨A,c,h1,h2⟩:=h i hi
 exact ⟨A,c,cell_lit w vs e i _ h1,h2.later (Ext.alloc _ _)⟩
theorem RowsB.two (w:World) (A1 A2:Option Addr) (n1 n2 c1 c2:Nat) (e:TypeId) (xs ys:List UInt8) (h1:Rd w w.heap.size A1 n1 xs) (h2:Rd w w.heap.size A2 n2 ys) :
  RowsB (w.alloc (.cells #[.slice A1 n1 c1,.slice A2 n2 c2] e)) w.heap.size 0 [xs,ys]:=by
 have e1:=h1.len;have e2:=h2.len
 subst e1 e2
 refine RowsB.lit w [.slice A1 xs.length c1,.slice A2 ys.length c2] e [xs,ys] fun i hi=>?_
 match i,hi with
 | 0,_=>exact ⟨A1,c1,rfl,h1⟩
 | 1,_=>exact ⟨A2,c2,rfl,h2⟩
set_option maxHeartbeats 1000000 in
theorem growB_any (n:Nat) (w:World) (h0:0 < n) (hn:n≤1000) :
  Calls Tryz.prog 88 #[.slice none 0 0,.int .i64 n] w fun e w'=>∃ v,e=.returned v∧Own w' w.heap.size v []∧Below w.heap.size w w':=by
 obtain ⟨i0,hi0,hz0,hz1,hz2⟩:=info_parts Tryz.info5
 have hr:=fun ty=>Lib.run_append_nil_zeros (P:=Tryz.prog) w 22 3 ty 5 i0 (.int .u8 0) .i64 .i64 Tryz.underlying22 Tryz.underlying3 hi0 hz0 n h0 (by omega) (by omega) (by rw [hz2];omega)
 have hc1:=grownCap_ge w n 0 5
 have hc2:=grownCap_le_maxLen w n 0 5 (by unfold maxLen;omega)
 obtain ⟨G,hG⟩:∃ G,G=grownCap w n 0 5:=⟨_,rfl⟩
 rw [← hG] at hc1 hc2 hr
 have hown:Own (w.drew.alloc (.cells (Builtin.zeroCells (Value.int .u8 0).cells n++Builtin.zeroCells (Value.int .u8 0).cells (G - n)) 5)) w.heap.size (.slice (some ⟨w.heap.size,0,none⟩) 0 G) [] :=
  World.ownsRow_made (w:=w.drew) (e:=5) (size:=1) _ G (Nat.le_refl _) hc2 (by
   have e1:(Value.int .u8 0).cells.size=1:=rfl
   simp [Builtin.zeroCells,e1]
   omega)
 have hb:Below w.heap.size w (w.drew.alloc (.cells (Builtin.zeroCells (Value.int .u8 0).cells n++Builtin.zeroCells (Value.int .u8 0).cells (G - n)) 5)):=(Ext.drew1 w).trans (Ext.alloc _ _)
 have HO:=hid hown
 have HB:=hid hb
 unfold maxLen at hc2
 clear hown hb hG hi0 hz0 hz1 hz2
 go_enter Tryz.func88,Tryz.ntmps88
 go_wp2_with (at_builtin;refine Lib.wpList_append_run _ rfl _ _ _ _ rfl _ _ rfl rfl _ _ (hr _) ?_)
 go_ret
 exact ⟨_,rfl,HO.out,HB.out⟩
set_option maxHeartbeats 1000000 in
theorem concatB_any (b o m c:Nat) (ls:List (List UInt8)) (w:World) (hm:m=ls.length) (h:RowsB w b o ls) (h0:0 < ls.flatten.length) (hl:ls.flatten.length≤1000) (hm2:m≤1000) :
  Calls Tryz.prog 48 #[.slice (some ⟨b,o,none⟩) m c] w fun e w'=>∃ v,e=.returned v∧Own w' w.heap.size v ls.flatten∧Below w.heap.size w w':=by
 go_enter Tryz.func48,Tryz.ntmps48
 go_wp2_with fail
 go_loopw [3,11] (fun s i wr=>∃ k:Nat,k≤m∧i=.int .i64 k∧s=.int .i64 (lenTo ls k:Nat)∧Ext w wr) (fun _ i _=>m - (intOf i).toNat)
 case atStart=>exact ⟨0,Nat.zero_le _,rfl,rfl,Below.refl _ _⟩
 case round =>
  obtain ⟨k,hk,rfl,rfl,hx⟩:=hrel
  by_cases hlt:k < m
  ·obtain ⟨A,c1,hc,hrd⟩:=(h.later hx) k (by omega)
   have hs:=lenTo_succ ls k (by omega)
   have hle:=lenTo_le ls k (by omega)
   obtain ⟨S,hS⟩:∃ S,lenTo ls k=S:=⟨_,rfl⟩
   obtain ⟨L,hL⟩:∃ L,(ls.getD k []).length=L:=⟨_,rfl⟩
   obtain ⟨S2,hS2⟩:∃ S2,lenTo ls (k+1)=S2:=⟨_,rfl⟩
   rw [hL] at hc hs
   rw [hS] at hs ⊢
   rw [hS2] at hs hle
   have HX:=hid hx
   have HS2:=hid hS2
   clear hL hS hS2 hrd hx h
   go_wp2_with fail
   go_roundw
   case rel=>exact ⟨k+1,by omega,by go_num,by rw [HS2.out,hs];go_num,HX.out⟩
   case measure=>simp [intOf];omega
  ·obtain rfl:k=m:=by omega
   have hall:lenTo ls k=ls.flatten.length:=by rw [hm];exact lenTo_all ls
   rw [hall]
   obtain ⟨T,hT⟩:∃ T,ls.flatten.length=T:=⟨_,rfl⟩
   rw [hT] at h0 hl ⊢
   have HX:=hid hx
   clear hx hall
   have h1000:(T:Int)≤1000:=by omega
   go_wp2_with (go_at_call 88;refine (growB_any _ _ h0 hl).mono ?_;rintro e w1 ⟨v1,rfl,hown1,hb1⟩)
   have HX1:=hid (Ext.trans HX.out hb1)
   have hown1:Own w1 w.heap.size v1 []:=hown1.base_mono (Below.size HX.out)
   clear HX hb1
   go_wp2_with fail
   go_loopw [6,27] (fun v i wr=>∃ j:Nat,j≤k∧i=.int .i64 j∧Own wr w.heap.size v (ls.take j).flatten∧Below w.heap.size w wr) (fun _ i _=>k - (intOf i).toNat)
   case atStart=>exact ⟨0,Nat.zero_le _,rfl,by simpa using hown1,HX1.out⟩
   case round =>
    clear hown1 HX1
    obtain ⟨j,hj,rfl,hown,hb⟩:=hrel
    by_cases hjt:j < k
    ·obtain ⟨A,c1,hc,hrd⟩:=(h.later hb) j (by omega)
     have hle:=lenTo_le ls j (by omega)
     have hss:=lenTo_succ ls j (by omega)
     have ht:=take_more ls j (by omega)
     obtain ⟨L,hL⟩:∃ L,ls.getD j [] = L:=⟨_,rfl⟩
     rw [hL] at hc hrd hss ht
     have hsz:=hb.size
     have HB:=hid hb
     have HT:=hid ht
     have hxl:(ls.take j).flatten.length=lenTo ls j:=rfl
     obtain ⟨X,hX⟩:∃ X,(ls.take j).flatten=X:=⟨_,rfl⟩
     rw [hX] at hown hxl
     have HXX:=hid hX
     obtain ⟨M,hM⟩:∃ M,L.length=M:=⟨_,rfl⟩
     rw [hM] at hc hrd hss
     rw [hT] at hle
     clear hb ht hX h hL
     go_wp2_with (at_builtin;refine wpL_append _ rfl (.tmp 31) (.tmp 32) 22 rfl Tryz.underlying22 Tryz.info5 w.heap.size _ X rfl hown _ A M c1 L rfl hrd (by omega) (by omega) ?_;intro v2 w2 hown2 hb2)
     have HO2:=hid hown2
     have HB2:=hid (HB.out.trans hb2)
     clear hown2 hb2
     go_roundw
     case rel=>exact ⟨j+1,by omega,by go_num,by rw [HT.out,HXX.out];exact HO2.out,HB2.out⟩
     case measure=>simp [intOf];omega
    ·obtain rfl:j=k:=by omega
     have e:ls.take j=ls:=by rw [hm,List.take_length]
     rw [e] at hown
     have HO:=hid hown
     have HB:=hid hb
     clear hown hb e
     go_wp2_with fail
     go_ret
     exact ⟨_,rfl,HO.out,HB.out⟩
theorem cf63 (vs:Array Value) (w:World):(callFunc 208 vs).run Tryz.prog w=.ok (.enter 208 vs) w:=by go_simp
theorem cf62 (vs:Array Value) (w:World):(callFunc 48 vs).run Tryz.prog w=.ok (.enter 48 vs) w:=by go_simp
def RowP (xs ys:List UInt8) (w:World) (v:Value):Prop:=∃ b,v=.slice (some ⟨b,0,none⟩) 2 2∧RowsB w b 0 [xs,ys]
theorem RowP.keep (xs ys:List UInt8):∀ w w' v,Ext w w'→RowP xs ys w v→RowP xs ys w' v:=fun _ _ _ hx ⟨b,h1,h2⟩=>⟨b,h1,h2.later hx⟩
def AtP (bs:List UInt8) (w:World) (v:Value):Prop:=∃ b o,v=.pointer (some ⟨b,o,none⟩)∧w.rangeAt b o (cellsOf bs)
theorem AtP.keep (bs:List UInt8):∀ w w' v,Ext w w'→AtP bs w v→AtP bs w' v:=fun _ _ _ hx ⟨b,o,h1,h2⟩=>⟨b,o,h1,rangeAt_later h2 hx⟩
theorem build24 (A1 A2:Option Addr) (n1 n2 c1 c2:Nat) (w:World):(Instr.buildSlice 97 2 #[(0,.slice A1 n1 c1),(1,.slice A2 n2 c2)]).run Tryz.prog w=.ok (.slice (some ⟨w.heap.size,0,none⟩) 2 2) (w.alloc (.cells #[.slice A1 n1 c1,.slice A2 n2 c2] 22)):=by go_simp
theorem concat2 {w:World} {b:Nat} {xs ys:List UInt8} (h:RowsB w b 0 [xs,ys]) (hl:xs.length+ys.length=16) :
  Calls Tryz.prog 48 #[.slice (some ⟨b,0,none⟩) 2 2] w (RetB w (xs++ys)):=by
 have hf:([xs,ys]:List (List UInt8)).flatten=xs++ys:=by simp
 have h1:=concatB_any b 0 2 2 [xs,ys] w rfl h (by rw [hf,List.length_append];omega) (by rw [hf,List.length_append];omega) (by omega)
 rw [hf] at h1
 exact h1
def Con (w:World):Prop:=∀ j,j < 3→w.rangeAt 8 (j*2) [.int .u64 (chi j),.int .u64 (clo j)]
theorem Con.later {w w':World} (h:Con w) (hx:Ext w w'):Con w':=fun j hj=>rangeAt_later (h j hj) hx
def Two (w:World) (S r:Nat):Prop:=w.cell? ⟨S,0,none⟩=some (.int .u64 (chi r))∧w.cell? ⟨S,1,none⟩=some (.int .u64 (clo r))
theorem Two.later {w w':World} {S r:Nat} (h:Two w S r) (hx:Ext w w'):Two w' S r :=
 ⟨(Below.cell hx (p:=⟨S,0,none⟩) (World.block_lt_of_cell? w _ h.1)).trans h.1,(Below.cell hx (p:=⟨S,1,none⟩) (World.block_lt_of_cell? w _ h.2)).trans h.2⟩
theorem size101:(Tryz.prog.info? 259).map (·.size)=some 2:=by kernel_rfl
def conKs (S r:Nat):List K:=[.eq (.pointer (some ⟨S,0,none⟩)),.eq (.int .u64 (chi r)),.byt 8 (spreadL (chi r) 8),.eq (.pointer (some ⟨S,1,none⟩)),.eq (.int .u64 (clo r)),.byt 8 (spreadL (clo r) 8),.gen (RowP (spreadL (chi r) 8) (spreadL (clo r) 8)) (RowP.keep _ _),.byt 16 (spreadL (chi r) 8++spreadL (clo r) 8),.gen (AtP (spreadL (chi r) 8++spreadL (clo r) 8)) (AtP.keep _),.eq (bv (spreadL (chi r) 8++spreadL (clo r) 8)),.any]
set_option maxHeartbeats 4000000 in
theorem const_any (i:Nat) (w:World) (hi:i≤1000) (hc:Con w) :
  Calls Tryz.prog 173 #[.int .i64 i] w fun e w'=>e=.returned (bv (constL i))∧Ext w w':=by
 obtain ⟨r,hr⟩:∃ r,i % 3=r:=⟨_,rfl⟩
 have hr3:r < 3:=by omega
 have htm:(i:Int).tmod 3=(r:Int):=by rw [Int.tmod_eq_emod_of_nonneg (by omega)];omega
 have hri:(r:Int) < 3:=by omega
 have HCL:=hid (show spreadL (chi r) 8++spreadL (clo r) 8=constL i by rw [constL,hr])
 have h3:=RW.new w 133 z16
 have x3:=Ext.alloc w (.cells (cellsOf z16).toArray 133)
 obtain ⟨W1,hW1⟩:∃ W1,w.alloc (.cells (cellsOf z16).toArray 133)=W1:=⟨_,rfl⟩
 have z1:W1.heap.size=w.heap.size+1:=by rw [← hW1];simp
 rw [hW1] at h3 x3
 have HL:=hid ((hc.later x3) r hr3)
 have x4:=Ext.alloc W1 (.cells #[.int .u64 (chi r),.int .u64 (clo r)] 259)
 have h4:Two (W1.alloc (.cells #[.int .u64 (chi r),.int .u64 (clo r)] 259)) (w.heap.size+1) r:=by
  rw [← z1]
  have e:=heap_alloc_new W1 (.cells #[.int .u64 (chi r),.int .u64 (clo r)] 259)
  exact ⟨by rw [cell_of_row _ _ _ _ _ _ e];rfl,by rw [cell_of_row _ _ _ _ _ _ e];rfl⟩
 obtain ⟨W2,hW2⟩:∃ W2,W1.alloc (.cells #[.int .u64 (chi r),.int .u64 (clo r)] 259)=W2:=⟨_,rfl⟩
 rw [hW2] at h4 x4
 have HXT:=hid (x3.trans x4)
 have HR:=hid (h3.later (by rw [z16_length];omega) x4)
 obtain ⟨G,hG⟩:∃ G,w.heap.size=G:=⟨_,rfl⟩
 obtain ⟨S,hS⟩:∃ S,G+1=S:=⟨_,rfl⟩
 rw [hG] at HR h4
 rw [hS] at h4
 have HS:=hid h4
 have HG:=hid hG
 have HW:=hid (And.intro hW1 (And.intro hW2 (And.intro hG (show W1.heap.size=S by omega))))
 clear hW1 hW2 z1 x3 x4 h3 h4 hG hS hr hc
 go_enter Tryz.func173,Tryz.ntmps173
 go_wp2_with (first
  | (rw [← cells_z16,HW.out.1];refine wpList_load_mid rfl 259 (.tmp 6) rfl 8 (r*2) rfl [.int .u64 (chi r),.int .u64 (clo r)] _ HL.out Tryz.underlying259 rfl size101 ?_))
 rw [HW.out.2.1,HW.out.2.2.1,HW.out.2.2.2]
 clear HW HL htm
 refine region_tail 10 _ mixed rfl (by kernel_rfl) (by kernel_rfl) rfl rfl rfl (kV (conKs S r)) (kV_keep _) (forall_ops ⟨?_,?_,?_,?_,?_,?_,?_,?_,?_,?_,fun h=>absurd rfl h,trivial⟩) ?_
 ·intro _ a w hk
  have s3:a.tmps.getD 3 undef=.pointer (some ⟨S,0,none⟩):=hk.was 3 (by kernel_rfl) rfl
  refine step_val (v:=.pointer (some ⟨S,0,none⟩)) (w':=w) rfl ?_ (Ext.refl w) rfl
  go_simp
 ·intro _ a w hk
  have s8:=hk.eq_ 0 8 (by kernel_rfl) rfl
  refine step_val (v:=.int .u64 (chi r)) (w':=w) rfl ?_ (Ext.refl w) rfl
  have hc:=(HS.out.later hk.ext).1
  go_simp
 ·intro _ a w hk
  have s9:=hk.eq_ 1 9 (by kernel_rfl) rfl
  exact step_call rfl rfl (by simp only [List.map_toArray,List.map_cons,List.map_nil,Act.eval,s9]<;>rfl) cf63 (putBe64_any (chi r) w) (fun e w1 h=>RetB.k (spreadL_length _ _) e w1 h)
 ·intro _ a w hk
  have s3:a.tmps.getD 3 undef=.pointer (some ⟨S,0,none⟩):=hk.was 3 (by kernel_rfl) rfl
  refine step_val (v:=.pointer (some ⟨S,1,none⟩)) (w':=w) rfl ?_ (Ext.refl w) rfl
  go_simp
 ·intro _ a w hk
  have s11:=hk.eq_ 3 11 (by kernel_rfl) rfl
  refine step_val (v:=.int .u64 (clo r)) (w':=w) rfl ?_ (Ext.refl w) rfl
  have hc:=(HS.out.later hk.ext).2
  go_simp
 ·intro _ a w hk
  have s12:=hk.eq_ 4 12 (by kernel_rfl) rfl
  exact step_call rfl rfl (by simp only [List.map_toArray,List.map_cons,List.map_nil,Act.eval,s12]<;>rfl) cf63 (putBe64_any (clo r) w) (fun e w1 h=>RetB.k (spreadL_length _ _) e w1 h)
 ·intro _ a w hk
  obtain ⟨A10,c10,s10,r10⟩:=hk.byt_ 2 10 (by kernel_rfl) rfl
  obtain ⟨A13,c13,s13,r13⟩:=hk.byt_ 5 13 (by kernel_rfl) rfl
  refine step_val (v:=.slice (some ⟨w.heap.size,0,none⟩) 2 2) (w':=w.alloc (.cells #[.slice A10 8 c10,.slice A13 8 c13] 22)) rfl ?_ (Ext.alloc _ _) ⟨_,rfl,RowsB.two w A10 A13 8 8 c10 c13 22 _ _ r10 r13⟩
  have e:=build24 A10 A13 8 8 c10 c13 w
  simp only [execOp,Act.eval,List.map_toArray,List.map_cons,List.map_nil,s10,s13,Sem.run_bind,e,Sem.run_pure,Result.andThen]
 ·intro _ a w hk
  obtain ⟨b14,s14,g14⟩:=hk.val 6 14 (by kernel_rfl) rfl
  exact step_call rfl rfl (by simp only [List.map_toArray,List.map_cons,List.map_nil,Act.eval,s14]<;>rfl) cf62 (concat2 g14 (by simp [spreadL_length])) (fun e w1 h=>RetB.k (by simp [spreadL_length]) e w1 h)
 ·intro _ a w hk
  obtain ⟨A15,c15,s15,r15⟩:=hk.byt_ 7 15 (by kernel_rfl) rfl
  obtain ⟨b,o,rfl,_,_⟩:=r15.at_ (by omega)
  exact step_val (v:=.pointer (some ⟨b,o,none⟩)) (w':=w) rfl (exec_atp rfl s15 Tryz.underlying133 (Nat.le_refl _)) (Ext.refl w) ⟨b,o,rfl,rangeAt_of_rd r15⟩
 ·intro _ a w hk
  obtain ⟨b16,o16,s16,g16⟩:=hk.val 8 16 (by kernel_rfl) rfl
  exact step_val (v:=bv (spreadL (chi r) 8++spreadL (clo r) 8)) (w':=w) rfl (exec_load_mid rfl s16 g16 Tryz.underlying133 (size55' (by simp [spreadL_length]))) (Ext.refl w) rfl
 ·intro a w1 hf
  have s8:=hf.eq_ 0 8 (by kernel_rfl) rfl
  have s9:=hf.eq_ 1 9 (by kernel_rfl) rfl
  obtain ⟨A10,c10,s10,r10⟩:=hf.val 2 10 (by kernel_rfl) rfl
  have s11:=hf.eq_ 3 11 (by kernel_rfl) rfl
  have s12:=hf.eq_ 4 12 (by kernel_rfl) rfl
  obtain ⟨A13,c13,s13,r13⟩:=hf.val 5 13 (by kernel_rfl) rfl
  obtain ⟨b14,s14,g14⟩:=hf.val 6 14 (by kernel_rfl) rfl
  obtain ⟨A15,c15,s15,r15⟩:=hf.val 7 15 (by kernel_rfl) rfl
  obtain ⟨b16,o16,s16,g16⟩:=hf.val 8 16 (by kernel_rfl) rfl
  have s17:=hf.eq_ 9 17 (by kernel_rfl) rfl
  have hx:=hf.ext
  have e:=hf.frame
  clear hf
  simp only [regFrame,Act.put,List.setIfInBounds_toArray,List.set_cons_zero,List.set_cons_succ,s8,s9,s10,s11,s12,s13,s14,s15,s16,s17] at e
  clear s8 s9 s10 s11 s12 s13 s14 s15 s16 s17
  subst e
  have HXE:=hid (below_setCells (B:=w.heap.size) (b:=G) (a:=w) (by have:=HG.out;omega) (cellsOf (spreadL (chi r) 8++spreadL (clo r) 8)) 0 w1 (Ext.trans HXT.out hx))
  have hr:=HR.out.later (by rw [z16_length];omega) hx
  have hl:(spreadL (chi r) 8++spreadL (clo r) 8).length=16:=by simp [spreadL_length]
  have HS2:=hid (hr.store0 (spreadL (chi r) 8++spreadL (clo r) 8) (by rw [hl,z16_length])).rd
  refine wp_store_arr 133 (.tmp 2) (.tmp 17) rfl rfl G 0 (spreadL (chi r) 8++spreadL (clo r) 8) rfl rfl (by rw [hl];exact hr.wr) (size55' hl) ?_
  clear hx hr
  go_wp2_with fail
  refine ret_mid rfl rfl G (spreadL (chi r) 8++spreadL (clo r) 8) rfl HS2.out Tryz.underlying133 (size55' hl) ⟨by rw [HCL.out],HXE.out⟩
end Go.Proofs.YtbgkmicelmenfaaGreatDoor.A
namespace Go.Proofs.YtbgkmicelmenfaaGreatDoor.A
open Go.RowKit
set_option maxRecDepth 100000
theorem run_copy_wide (w:World) (dT sT ty elem:TypeId) (b o dLen dCap:Nat) (a:Addr) (sLen sCap sz:Nat) (cs:List Value)
  (hu:Tryz.prog.underlying dT=some (.slice elem)) (hs:(Tryz.prog.info? elem).map (·.size)=some sz) (hn:cs.length=Nat.min sLen dLen*sz)
  (hsrc:∀ j v,cs[j]? = some v→w.cell? (a.add j)=some v) (hc:∀ j,j < cs.length→(w.cell? ⟨b,o+j,none⟩).isSome=true) (hf:∀ j,j < cs.length→w.frozen? ⟨b,o+j,none⟩=false) (h1:∀ v ∈ cs,v.oneCell' = true) :
  (Builtin.copy_ #[dT,sT] ty #[.slice (some ⟨b,o,none⟩) dLen dCap,.slice (some a) sLen sCap]).run Tryz.prog w=.ok (goInt (Nat.min sLen dLen:Nat)) (w.setCells b o cs):=by
 have hl:=run_loadCells_list (P:=Tryz.prog) w a cs hsrc
 have hst:=run_storeCells_cells (P:=Tryz.prog) b o cs 0 w (by simpa using hc) (by simpa using hf) h1
 cases hq:Tryz.prog.info? elem with
 | none=>simp [hq] at hs
 | some i =>
   have hi:i.size=sz:=by simpa [hq] using hs
   simp [Builtin.copy_,run_underlying hu,Builtin.lenOf,Builtin.firstCells,sizeOf,typeInfo,hq,hi,← hn,hl,hst]
theorem wpList_cp {ops:Array Oper} {rest:List Oper} {o:Oper} {a:Act} {w:World} {Q:Exit→Act→World→Prop} (hgd:o.guard=none) (d s:Operand) (dT sT elem:TypeId) (sz:Nat)
  (ho:o.op=.call { callee:=.builtin .copy,args:=#[d,s],argTypes:=#[dT,sT] }) (hu:Tryz.prog.underlying dT=some (.slice elem)) (hs:(Tryz.prog.info? elem).map (·.size)=some sz)
  (g k dLen dCap sLen sCap b p:Nat) (bs:List UInt8) (hd:a.eval d=.slice (some ⟨g,k,none⟩) dLen dCap) (hx:a.eval s=.slice (some ⟨b,p,none⟩) sLen sCap)
  (hl:bs.length=Nat.min sLen dLen*sz) (hc:w.rangeAt b p (cellsOf bs)) (ht:w.there g k bs.length)
  (h:wpList Tryz.prog ops Q rest (a.put o.dst (goInt (Nat.min sLen dLen:Nat))) (w.setCells g k (cellsOf bs))):wpList Tryz.prog ops Q (o::rest) a w :=
 wpList_plain hgd fun K hK=>by
  have hk:=hK _ _ h
  clear hK h
  have hr:=fun ty=>run_copy_wide w dT sT ty elem g k dLen dCap ⟨b,p,none⟩ sLen sCap sz (cellsOf bs) hu hs (by rw [cellsOf_length];exact hl)
   (fun j v hv=>by rw [Addr.add_mid];exact hc j v hv) (fun j hj=>(ht j (by rw [cellsOf_length] at hj;exact hj)).1) (fun j hj=>(ht j (by rw [cellsOf_length] at hj;exact hj)).2) (cellsOf_one bs)
  have hrun:=hr o.type
  unfold Oper.wp
  simp [execOp,ho,resolve,invoke,builtin,hd,hx,hrun,Result.andThen]
  exact hk
def FL (f:Nat→List UInt8) (n:Nat):List UInt8:=(List.range (n*16)).map fun p=>(f (p / 16)).getD (p % 16) 0
theorem FL_length (f:Nat→List UInt8) (n:Nat):(FL f n).length=n*16:=by simp [FL]
theorem FL_cut (f:Nat→List UInt8) (n j:Nat) (hj:j < n) (hl:(f j).length=16):((FL f n).drop (j*16)).take 16=f j:=by
 apply List.ext_getElem
 ·simp [FL,hl];omega
 ·intro i h1 h2
  have hi:i < 16:=by omega
  simp only [FL,List.getElem_take,List.getElem_drop,List.getElem_map,List.getElem_range]
  rw [show (j*16+i) / 16=j by omega,show (j*16+i) % 16=i by omega]
  simp [List.getD_eq_getElem?_getD,h2]
theorem FL_congr {f h:Nat→List UInt8} {n:Nat} (e:∀ j,j < n→f j=h j):FL f n=FL h n:=by
 refine List.map_congr_left fun p hp=>?_
 have:=List.mem_range.1 hp
 rw [e (p / 16) (by omega)]
theorem FL_lay (f:Nat→List UInt8) (n j:Nat) (c:List UInt8) (_hj:j < n) (hc:c.length=16):lay (FL f n) (j*16) c=FL (fun k=>if k=j then c else f k) n:=by
 unfold lay
 rw [FL_length]
 refine List.map_congr_left fun p hp=>?_
 have hp:=List.mem_range.1 hp
 by_cases h:j*16≤p∧p < j*16+c.length
 ·rw [if_pos h]
  show _=(if p / 16=j then c else f (p / 16)).getD (p % 16) 0
  rw [if_pos (by omega),show p - j*16=p % 16 by omega]
 ·rw [if_neg h]
  show _=(if p / 16=j then c else f (p / 16)).getD (p % 16) 0
  rw [if_neg (by omega)]
  simp [FL,List.getD_eq_getElem?_getD,hp]
theorem FL_zero (n:Nat):FL (fun _=>z16) n=List.replicate (n*16) 0:=by
 apply List.ext_getElem
 ·simp [FL]
 ·intro p h1 h2
  simp only [FL,List.getElem_map,List.getElem_range,List.getElem_replicate,z16]
  rw [List.getD_eq_getElem?_getD,List.getElem?_replicate]
  split<;>rfl
theorem RW.blk {w:World} {g n:Nat} {f:Nat→List UInt8} (h:RW w g 0 (FL f n)) (j:Nat) (hj:j < n) (hl:(f j).length=16):RW w g (j*16) (f j):=by
 have:=h.cut (j*16) 16 (by rw [FL_length];omega)
 rw [FL_cut f n j hj hl,Nat.zero_add] at this
 exact this
theorem RW.setBlk {w:World} {g n:Nat} {f:Nat→List UInt8} (h:RW w g 0 (FL f n)) (j:Nat) (c:List UInt8) (hj:j < n) (hc:c.length=16):RW (w.setCells g (j*16) (cellsOf c)) g 0 (FL (fun k=>if k=j then c else f k) n):=by
 have:=h.store (j*16) c (by rw [FL_length];omega)
 rw [FL_lay f n j c hj hc,Nat.zero_add] at this
 exact this
end Go.Proofs.YtbgkmicelmenfaaGreatDoor.A
namespace Go.Proofs.YtbgkmicelmenfaaGreatDoor.A
open Go.RowKit
set_option maxRecDepth 100000
theorem cf50 (vs:Array Value) (w:World):(callFunc 173 vs).run Tryz.prog w=.ok (.enter 173 vs) w:=by go_simp
theorem cf46 (vs:Array Value) (w:World):(callFunc 121 vs).run Tryz.prog w=.ok (.enter 121 vs) w:=by go_simp
theorem cf27 (vs:Array Value) (w:World):(callFunc 120 vs).run Tryz.prog w=.ok (.enter 120 vs) w:=by go_simp
theorem cf36 (vs:Array Value) (w:World):(callFunc 117 vs).run Tryz.prog w=.ok (.enter 117 vs) w:=by go_simp
theorem elem22:Tryz.prog.underlying 22=some (.slice (Tryz.prog.elem 22)):=by kernel_rfl
theorem size22 (w:World):(sizeOf (Tryz.prog.elem 22)).run Tryz.prog w=.ok 1 w:=by kernel_rfl
theorem sz5:(Tryz.prog.info? 5).map (·.size)=some 1:=by kernel_rfl
theorem wpList_cpr {ops:Array Oper} {rest:List Oper} {o:Oper} {a:Act} {w:World} {Q:Exit→Act→World→Prop} (hgd:o.guard=none) (d s:Operand)
  (ho:o.op=.call { callee:=.builtin .copy,args:=#[d,s],argTypes:=#[22,22] })
  (g k dLen dCap B m c:Nat) (A:Option Addr) (bs:List UInt8) (hd:a.eval d=.slice (some ⟨g,k,none⟩) dLen dCap) (hx:a.eval s=.slice A m c)
  (hr:Rd w B A m bs) (q:Nat) (hq:Nat.min m dLen=q) (ht:w.there g k q)
  (h:wpList Tryz.prog ops Q rest (a.put o.dst (.int .i64 q)) (w.setCells g k (cellsOf (bs.take dLen)))):wpList Tryz.prog ops Q (o::rest) a w:=by
 subst hq
 have hl:=hr.len
 by_cases hm:0 < m
 ·obtain ⟨b,p,rfl,_,_⟩:=hr.at_ hm
  have hc:=rangeAt_cut (rangeAt_of_rd hr) 0 (Nat.min m dLen) (by rw [hl,Nat.zero_add];exact Nat.min_le_left _ _)
  have e:(bs.drop 0).take (Nat.min m dLen)=bs.take dLen:=by
   rw [List.drop_zero]
   rcases Nat.le_total m dLen with h1 | h1
   ·rw [show Nat.min m dLen=m from Nat.min_eq_left h1,List.take_of_length_le (by omega),List.take_of_length_le (by omega)]
   ·rw [show Nat.min m dLen=dLen from Nat.min_eq_right h1]
  rw [e,Nat.add_zero] at hc
  have hlen:(bs.take dLen).length=Nat.min m dLen:=by rw [← e,List.drop_zero,List.length_take,hl];exact Nat.min_eq_left (Nat.min_le_left _ _)
  exact wpList_cp hgd d s 22 22 5 1 ho Tryz.underlying22 sz5 g k dLen dCap m c b p (bs.take dLen) hd hx (by rw [hlen,Nat.mul_one]) hc (by rw [hlen];exact ht) h
 ·obtain rfl:m=0:=by omega
  obtain rfl:bs = []:=List.eq_nil_of_length_eq_zero hl
  have hn:Nat.min 0 dLen=0:=Nat.zero_min _
  rw [hn] at h
  exact wpList_plain hgd fun K hK=>by
   have hk:K (a.put o.dst (goInt 0)) w:=by have:=hK _ _ h;simpa [cellsOf,World.setCells,goInt] using this
   clear hK h
   have hrun:=run_copy_none (P:=Tryz.prog) w 22 22 o.type 5 (some ⟨g,k,none⟩) A dLen dCap 0 c Tryz.underlying22 sz5 hn
   unfold Oper.wp
   simp [execOp,ho,resolve,invoke,builtin,hd,hx,hrun,Result.andThen]
   exact hk
def z64:List UInt8:=FL (fun _=>z16) 4
theorem z64_length:z64.length=64:=FL_length _ _
theorem cells_z64:(cellsOf z64).toArray=#[.int .u8 0,.int .u8 0,.int .u8 0,.int .u8 0,.int .u8 0,.int .u8 0,.int .u8 0,.int .u8 0,.int .u8 0,.int .u8 0,.int .u8 0,.int .u8 0,.int .u8 0,.int .u8 0,.int .u8 0,.int .u8 0,.int .u8 0,.int .u8 0,.int .u8 0,.int .u8 0,.int .u8 0,.int .u8 0,.int .u8 0,.int .u8 0,.int .u8 0,.int .u8 0,.int .u8 0,.int .u8 0,.int .u8 0,.int .u8 0,.int .u8 0,.int .u8 0,.int .u8 0,.int .u8 0,.int .u8 0,.int .u8 0,.int .u8 0,.int .u8 0,.int .u8 0,.int .u8 0,.int .u8 0,.int .u8 0,.int .u8 0,.int .u8 0,.int .u8 0,.int .u8 0,.int .u8 0,.int .u8 0,.int .u8 0,.int .u8 0,.int .u8 0,.int .u8 0,.int .u8 0,.int .u8 0,.int .u8 0,.int .u8 0,.int .u8 0,.int .u8 0,.int .u8 0,.int .u8 0,.int .u8 0,.int .u8 0,.int .u8 0,.int .u8 0]:=by kernel_rfl
def wS (key:List UInt8) (i:Nat):List UInt8:=FL (fun j=>if j≤i then seedL key j else z16) 4
theorem wS_length (key:List UInt8) (i:Nat):(wS key i).length=64:=FL_length _ _
theorem wS_full (key:List UInt8):wS key 3=FL (seedL key) 4:=FL_congr fun j hj=>by rw [if_pos (by omega)]
theorem front0 {key:List UInt8} (h:16≤key.length):key.take 16=frontL key 0:=by
 apply List.ext_getElem
 ·simp [frontL];omega
 ·intro i h1 h2
  have hi:i < 16:=by simpa [frontL] using h2
  simp [frontL,List.getElem?_eq_getElem (show i < key.length by omega)]
theorem front16 {key:List UInt8} (h:key.length≤32):lay z16 0 ((key.drop 16).take 16)=frontL key 16:=by
 unfold lay frontL
 rw [z16_length]
 refine List.map_congr_left fun i hi=>?_
 have hi:=List.mem_range.1 hi
 by_cases h1:16+i < key.length
 ·rw [if_pos ⟨Nat.zero_le _,by simp;omega⟩]
  simp [List.getElem?_drop,hi,Nat.sub_zero]
 ·rw [if_neg (by simp;omega)]
  rw [List.getD_eq_getElem?_getD,List.getD_eq_getElem?_getD,List.getElem?_eq_none (show key.length≤16+i by omega),z16,List.getElem?_replicate]
  split<;>rfl
theorem wS_zero {key:List UInt8}:FL (fun k=>if k=0 then frontL key 0 else z16) 4=wS key 0:=FL_congr fun j _=>by
 by_cases h:j=0
 ·subst h;rfl
 ·simp only [h,if_false,show ¬ j≤0 by omega]
theorem wS_next (key:List UInt8) (i:Nat):FL (fun k=>if k=i+1 then seedL key (i+1) else (if k≤i then seedL key k else z16)) 4=wS key (i+1):=FL_congr fun j _=>by
 by_cases h:j=i+1
 ·subst h;simp
 ·by_cases h2:j≤i
  ·simp only [h,if_false,h2,if_true,show j≤i+1 by omega]
  ·simp only [h,if_false,h2,show ¬ j≤i+1 by omega]
def seedKs4 (G n:Nat) (key:List UInt8):List K:=[.eq (.slice (some ⟨G+1+1,0,none⟩) 16 16),.byc n (key),.byt (n - 16) (key.drop 16),.any]
def seedKs9 (g G F i:Nat) (SI HI SJ:List UInt8):List K:=[.eq (.int .i64 i),.eq (.int .i64 (i+1:Nat)),.eq (.pointer (some ⟨g,0,none⟩)),.eq (.int .i64 i),.eq (.int .i64 i),.eq (.pointer (some ⟨G+1,i*16,none⟩)),.eq (bv SI),.eq (.int .i64 F),.eq (.int .i64 i),.eq (.int .i64 (F+i:Nat)),.eq (bv (constL (F+i))),.eq (bv (stepL i SI (constL (F+i)))),.eq (bv (mixL (stepL i SI (constL (F+i))))),.eq (bv HI),.eq (bv SJ),.eq (.pointer (some ⟨G+1,(i+1)*16,none⟩)),.any]
set_option maxHeartbeats 4000000 in
theorem seeds_any (g n c:Nat) (A:Option Addr) (key:List UInt8) (w:World) (h:Rd w w.heap.size A n key) (hn:n=16∨n=24∨n=32) (hc:n≤c) (ht:TB w g) (hs:Sev w) (hco:Con w) :
  Calls Tryz.prog 116 #[.pointer (some ⟨g,0,none⟩),.slice A n c] w fun e w'=>e=.returned (.agg (cellsOf (FL (seedL key) 4)).toArray)∧Ext w w':=by
 have hl:=h.len
 have h1:=RW.new w 197 z64
 have x1:=Ext.alloc w (.cells (cellsOf z64).toArray 197)
 obtain ⟨W1,hW1⟩:∃ W1,w.alloc (.cells (cellsOf z64).toArray 197)=W1:=⟨_,rfl⟩
 have z1:W1.heap.size=w.heap.size+1:=by rw [← hW1];simp
 have h2:=RW.new W1 197 z64
 have x2:=Ext.alloc W1 (.cells (cellsOf z64).toArray 197)
 obtain ⟨W2,hW2⟩:∃ W2,W1.alloc (.cells (cellsOf z64).toArray 197)=W2:=⟨_,rfl⟩
 have z2:W2.heap.size=w.heap.size+1+1:=by rw [← hW2,← z1];simp
 have h3:=RW.new W2 133 z16
 have x3:=Ext.alloc W2 (.cells (cellsOf z16).toArray 133)
 obtain ⟨W3,hW3⟩:∃ W3,W2.alloc (.cells (cellsOf z16).toArray 133)=W3:=⟨_,rfl⟩
 rw [hW1] at h1 x1
 rw [hW2] at h2 x2
 rw [hW3] at h3 x3
 have h1:=(h1.later (by rw [z64_length];omega) x2).later (by rw [z64_length];omega) x3
 have h2:=h2.later (by rw [z64_length];omega) x3
 obtain ⟨G,hG⟩:∃ G,w.heap.size=G:=⟨_,rfl⟩
 rw [z1] at h2
 rw [z2] at h3
 have hx3:=(x1.trans x2).trans x3
 have hK3:=h.later hx3
 rw [hG] at h1 h2 h3
 have h2':=h2.setBlk 0 (key.take 16) (by omega) (by rw [List.length_take,hl];omega)
 rw [front0 (by omega),wS_zero,Nat.zero_mul] at h2'
 have h1':=h1.apart (G+1) 0 (cellsOf (key.take 16)) (by omega)
 have h3':=h3.apart (G+1) 0 (cellsOf (key.take 16)) (by omega)
 have hx4:=below_setCells (B:=w.heap.size) (b:=G+1) (a:=w) (by omega) (cellsOf (key.take 16)) 0 W3 hx3
 rw [front0 (by omega)] at h1' h3' hx4
 have HKR:=hid ((h.below hx4 (Nat.le_refl _)).more hx4.size)
 have HK3:=hid hK3
 have HTH1:=hid (show W3.there (G+1) 0 16 from fun j hj=>h2.wr j (by rw [z64_length];omega))
 have HQ16:=hid (show Nat.min n 16=16 from Nat.min_eq_right (by omega))
 obtain ⟨W4,hW4⟩:∃ W4,W3.setCells (G+1) 0 (cellsOf (frontL key 0))=W4:=⟨_,rfl⟩
 rw [hW4] at h1' h2' h3' hx4 HKR
 have HQ4:=hid (And.intro h1' (And.intro h2' h3'))
 have HX4:=hid hx4
 have HW:=hid (And.intro hW1 (And.intro hW2 (And.intro hW3 (And.intro hG (And.intro (front0 (key:=key) (by omega)) hW4)))))
 have HG:=hid hG
 have HN16:=hid (show 16≤n by omega)
 have HNC:=hid hc
 have HLN:=hid hl
 have HTB0:=hid ht
 have HSV0:=hid hs
 have HCO0:=hid hco
 clear hW1 hW2 hW3 hW4 z1 z2 x1 x2 x3 h1 h2 h3 h1' h2' h3' hx3 hx4 hK3 hG ht hs hco h hl hc
 go_enter Tryz.func116,Tryz.ntmps116
 go_wp2_with (first
  | (rw [← cells_z16,← cells_z64,HW.out.1,HW.out.2.1,HW.out.2.2.1,HW.out.2.2.2.1];refine wpList_cpr rfl (.tmp 10) (.tmp 11) rfl (G+1) 0 16 16 _ n c A key rfl rfl HK3.out 16 HQ16.out HTH1.out ?_;rw [HW.out.2.2.2.2.1,HW.out.2.2.2.2.2];clear HW HK3 HTH1))
 go_wp2_with fail
 refine region_upto 3 mixed rfl (by kernel_rfl) (by kernel_rfl) (by kernel_rfl) (kV (seedKs4 G n key)) (kV_keep _) (forall_ops ⟨?_,?_,?_,trivial⟩) ?_
 ·intro a w hk
  have s6:a.tmps.getD 6 undef=.pointer (some ⟨G+1+1,0,none⟩):=hk.was 6 (by kernel_rfl) rfl
  refine step_val (v:=.slice (some ⟨G+1+1,0,none⟩) 16 16) (w':=w) rfl ?_ (Ext.refl w) rfl
  go_simp
 ·intro a w hk
  have s1:a.tmps.getD 1 undef=.slice A n c:=hk.was 1 (by kernel_rfl) rfl
  have k1:=HNC.out
  have r1:=(HKR.out).later hk.ext
  exact step_move rfl rfl s1 ⟨_,_,rfl,k1,r1⟩
 ·intro a w hk
  obtain ⟨A14,c14,s14,k14,r14⟩:=hk.val 1 14 (by kernel_rfl) rfl
  exact step_slice_lo (l:=16) rfl rfl s14 rfl elem22 size22 HN16.out k14 r14 (fun _ h=>h)
 ·intro a w1 hf
  have s13:=hf.eq_ 0 13 (by kernel_rfl) rfl
  obtain ⟨A14,c14,s14,k14,r14⟩:=hf.val 1 14 (by kernel_rfl) rfl
  obtain ⟨A15,c15,s15,r15⟩:=hf.val 2 15 (by kernel_rfl) rfl
  have hx:=hf.ext
  have e:=hf.frame
  clear hf
  simp only [List.take_succ_cons,List.take_zero,regFrame,Act.put,List.setIfInBounds_toArray,List.set_cons_zero,List.set_cons_succ,s13,s14,s15] at e
  clear s13 s14 s15
  subst e
  simp only [List.drop_succ_cons,List.drop_zero]
  have hq:=HQ4.out
  have k1:=(hq.1.later (by rw [z64_length];omega) hx).apart (G+1+1) 0 (cellsOf ((key.drop 16).take 16)) (by omega)
  have k2:=(hq.2.1.later (by rw [wS_length];omega) hx).apart (G+1+1) 0 (cellsOf ((key.drop 16).take 16)) (by omega)
  have k3:=hq.2.2.later (by rw [z16_length];omega) hx
  have hl15:((key.drop 16).take 16).length=n - 16:=by rw [List.length_take,List.length_drop,HLN.out];omega
  have k3':=k3.store 0 ((key.drop 16).take 16) (by rw [hl15,z16_length];omega)
  rw [front16 (by rw [HLN.out];omega)] at k3'
  have HTH2:=hid (show w1.there (G+1+1) 0 (n - 16) from fun j hj=>k3.wr j (by rw [z16_length];omega))
  have HM:=hid (show Nat.min (n - 16) 16=n - 16 from Nat.min_eq_left (by omega))
  have hx5:=below_setCells (B:=w.heap.size) (b:=G+1+1) (a:=w) (by have:=HG.out;omega) (cellsOf ((key.drop 16).take 16)) 0 w1 (Ext.trans HX4.out hx)
  obtain ⟨m16,h16⟩:∃ m,n - 16=m:=⟨_,rfl⟩
  rw [h16] at r15 HTH2 HM ⊢
  have HR15:=hid r15
  obtain ⟨W5,hW5⟩:∃ W5,w1.setCells (G+1+1) 0 (cellsOf ((key.drop 16).take 16))=W5:=⟨_,rfl⟩
  rw [hW5] at k1 k2 k3' hx5
  have HQ5:=hid (show RW W5 G 0 z64∧RW W5 (G+1) 0 (wS key 0)∧RW W5 (G+1+1) 0 (headL key 0)∧Ext w W5 from ⟨k1,k2,k3',hx5⟩)
  have HW5:=hid hW5
  obtain ⟨F,hF⟩:∃ F,n / 8 - 2=F:=⟨_,rfl⟩
  have hF1:(n:Int).tdiv 8=(F:Int)+2:=by rw [Int.tdiv_eq_ediv_of_nonneg (by omega)];omega
  have HF2:=hid (show F≤2 by omega)
  have hF3:(F:Int)≤2:=by omega
  have HFK:=hid (show key.length / 8 - 2=F by rw [HLN.out,hF])
  clear hq k1 k2 k3 k3' hl15 hx5 hx r14 r15 hW5 hF h16 HQ4 HX4
  go_wp2_with (refine wpList_cpr rfl (.tmp 13) (.tmp 15) rfl (G+1+1) 0 16 16 _ m16 c15 A15 (key.drop 16) rfl rfl HR15.out m16 HM.out HTH2.out ?_;rw [HW5.out];clear HW5 HR15 HM HTH2)
  clear hF1 hF3
  go_loopw [21] (fun v wr=>∃ i:Nat,i≤3∧v=.int .i64 i∧RW wr G 0 z64∧RW wr (G+1) 0 (wS key i)∧RW wr (G+1+1) 0 (headL key i)∧Ext w wr) (fun v _=>3 - (intOf v).toNat)
  case atStart=>exact ⟨0,by omega,rfl,HQ5.out⟩
  case round =>
   clear HQ5
   obtain ⟨i,hi,rfl,hZ,hS,hH,hx⟩:=hrel
   by_cases hlt:i < 3
   ·have HI3:=hid hlt
    have HI1000:=hid (show i≤1000 by omega)
    have HFI:=hid (show F+i≤1000 by have:=HF2.out;omega)
    have HTB:=hid (HTB0.out.later hx)
    have HSV:=hid (HSV0.out.later hx)
    have HCO:=hid (HCO0.out.later hx)
    have hblk:=hS.blk i (by omega) (by rw [if_pos (Nat.le_refl i)];exact seedL_length key i)
    rw [if_pos (Nat.le_refl i)] at hblk
    obtain ⟨SI,hSI⟩:∃ SI,seedL key i=SI:=⟨_,rfl⟩
    obtain ⟨HI,hHI⟩:∃ HI,headL key i=HI:=⟨_,rfl⟩
    obtain ⟨SJ,hSJ⟩:∃ SJ,seedL key (i+1)=SJ:=⟨_,rfl⟩
    have HSJ:=hid (show xorL (mixL (stepL i SI (constL (F+i)))) HI 16=SJ by rw [← hSJ,seedL_succ,hSI,hHI,HFK.out])
    have HLS:=hid (show SI.length=16∧HI.length=16 by rw [← hSI,← hHI];exact ⟨seedL_length key i,headL_length key i⟩)
    have HLJ:=hid (show SJ.length=16 by rw [← hSJ];exact seedL_length key _)
    rw [hHI] at hH
    rw [hSI] at hblk
    have HS:=hid (And.intro hblk.rd hH.rd)
    have HA:=hid (And.intro hZ (And.intro hS (And.intro hH hx)))
    have HTH:=hid (show ∀ w1,Ext wr w1→w1.there (G+1) ((i+1)*16) SJ.length from fun w1 hx1=>by
     have h2:=hS.later (by rw [wS_length];omega) hx1
     exact fun j hj=>by
      have:=h2.wr ((i+1)*16+j) (by rw [wS_length];rw [HLJ.out] at hj;omega)
      rwa [Nat.zero_add] at this)
    have HN:=hid (And.intro hSI (And.intro hHI hSJ))
    clear hS hH hZ hx hblk hSI hHI hSJ
    go_wp2_with fail
    refine region_tail 16 _ mixed rfl (by kernel_rfl) (by kernel_rfl) rfl rfl rfl (kV (seedKs9 g G F i SI HI SJ)) (kV_keep _) (forall_ops ⟨?_,?_,?_,?_,?_,?_,?_,?_,?_,?_,?_,?_,?_,?_,?_,?_,fun h=>absurd rfl h,trivial⟩) ?_
    ·intro _ a w hk
     have s8:a.tmps.getD 8 undef=.int .i64 i:=hk.was 8 (by kernel_rfl) rfl
     exact step_move rfl rfl s8 rfl
    ·intro _ a w hk
     have s24:=hk.eq_ 0 24 (by kernel_rfl) rfl
     refine step_val (v:=.int .i64 (i+1:Nat)) (w':=w) rfl ?_ (Ext.refl w) rfl
     have hi3:(i:Int) < 3:=by have:=HI3.out;omega
     go_simp
     exact IntWalk.i64_in _ (by omega)
    ·intro _ a w hk
     have s0:a.tmps.getD 0 undef=.pointer (some ⟨g,0,none⟩):=hk.was 0 (by kernel_rfl) rfl
     exact step_move rfl rfl s0 rfl
    ·intro _ a w hk
     have s8:a.tmps.getD 8 undef=.int .i64 i:=hk.was 8 (by kernel_rfl) rfl
     exact step_move rfl rfl s8 rfl
    ·intro _ a w hk
     have s8:a.tmps.getD 8 undef=.int .i64 i:=hk.was 8 (by kernel_rfl) rfl
     exact step_move rfl rfl s8 rfl
    ·intro _ a w hk
     have s5:a.tmps.getD 5 undef=.pointer (some ⟨G+1,0,none⟩):=hk.was 5 (by kernel_rfl) rfl
     have s28:=hk.eq_ 4 28 (by kernel_rfl) rfl
     refine step_val (v:=.pointer (some ⟨G+1,i*16,none⟩)) (w':=w) rfl ?_ (Ext.refl w) rfl
     have hi3:(i:Int) < 4:=by have:=HI3.out;omega
     go_simp
    ·intro _ a w hk
     have s29:=hk.eq_ 5 29 (by kernel_rfl) rfl
     exact step_val (v:=bv SI) (w':=w) rfl (exec_load_mid rfl s29 (rangeAt_later HS.out.1 hk.ext) Tryz.underlying133 (size55' HLS.out.1)) (Ext.refl w) rfl
    ·intro _ a w hk
     have s7:a.tmps.getD 7 undef=.int .i64 F:=hk.was 7 (by kernel_rfl) rfl
     exact step_move rfl rfl s7 rfl
    ·intro _ a w hk
     have s8:a.tmps.getD 8 undef=.int .i64 i:=hk.was 8 (by kernel_rfl) rfl
     exact step_move rfl rfl s8 rfl
    ·intro _ a w hk
     have s31:=hk.eq_ 7 31 (by kernel_rfl) rfl
     have s32:=hk.eq_ 8 32 (by kernel_rfl) rfl
     refine step_val (v:=.int .i64 (F+i:Nat)) (w':=w) rfl ?_ (Ext.refl w) rfl
     have hi3:(i:Int) < 3:=by have:=HI3.out;omega
     have hf:(F:Int)≤2:=by have:=HFI.out;have:=HF2.out;omega
     go_simp
     exact IntWalk.i64_in _ (by omega)
    ·intro _ a w hk
     have s33:=hk.eq_ 9 33 (by kernel_rfl) rfl
     exact step_call rfl rfl (by simp only [List.map_toArray,List.map_cons,List.map_nil,Act.eval,s33]<;>rfl) cf50 (const_any (F+i) w HFI.out (HCO.out.later hk.ext)) (fun e w1 h=>retX e w1 h)
    ·intro _ a w hk
     have s26:=hk.eq_ 2 26 (by kernel_rfl) rfl
     have s27:=hk.eq_ 3 27 (by kernel_rfl) rfl
     have s30:=hk.eq_ 6 30 (by kernel_rfl) rfl
     have s34:=hk.eq_ 10 34 (by kernel_rfl) rfl
     exact step_call rfl rfl (by simp only [List.map_toArray,List.map_cons,List.map_nil,Act.eval,s26,s27,s30,s34]<;>rfl) cf46 (step_any g i SI (constL (F+i)) w HLS.out.1 (constL_length _) HI1000.out (HTB.out.later hk.ext)) (fun e w1 h=>retX e w1 h)
    ·intro _ a w hk
     have s35:=hk.eq_ 11 35 (by kernel_rfl) rfl
     exact step_call rfl rfl (by simp only [List.map_toArray,List.map_cons,List.map_nil,Act.eval,s35]<;>rfl) cf27 (mixed_any (stepL i SI (constL (F+i))) w (stepL_length _ _ _) (HSV.out.later hk.ext)) (fun e w1 h=>retX e w1 h)
    ·intro _ a w hk
     have s6:a.tmps.getD 6 undef=.pointer (some ⟨G+1+1,0,none⟩):=hk.was 6 (by kernel_rfl) rfl
     exact step_val (v:=bv HI) (w':=w) rfl (exec_load_mid rfl s6 (rangeAt_later HS.out.2 hk.ext) Tryz.underlying133 (size55' HLS.out.2)) (Ext.refl w) rfl
    ·intro _ a w hk
     have s36:=hk.eq_ 12 36 (by kernel_rfl) rfl
     have s37:=hk.eq_ 13 37 (by kernel_rfl) rfl
     exact step_call rfl rfl (by simp only [List.map_toArray,List.map_cons,List.map_nil,Act.eval,s36,s37]<;>rfl) cf36 (xored_any (mixL (stepL i SI (constL (F+i)))) HI w (mixL_length _) HLS.out.2) (fun e w1 h=>retX e w1 (by rw [HSJ.out] at h;exact h))
    ·intro _ a w hk
     have s5:a.tmps.getD 5 undef=.pointer (some ⟨G+1,0,none⟩):=hk.was 5 (by kernel_rfl) rfl
     have s25:=hk.eq_ 1 25 (by kernel_rfl) rfl
     refine step_val (v:=.pointer (some ⟨G+1,(i+1)*16,none⟩)) (w':=w) rfl ?_ (Ext.refl w) rfl
     have hi3:i < 3:=HI3.out
     obtain ⟨j,hj⟩:∃ j,i+1=j:=⟨_,rfl⟩
     rw [hj] at s25 ⊢
     have hj4:(j:Int) < 4:=by omega
     go_simp
    ·intro a w1 hf
     have s24:=hf.eq_ 0 24 (by kernel_rfl) rfl
     have s25:=hf.eq_ 1 25 (by kernel_rfl) rfl
     have s26:=hf.eq_ 2 26 (by kernel_rfl) rfl
     have s27:=hf.eq_ 3 27 (by kernel_rfl) rfl
     have s28:=hf.eq_ 4 28 (by kernel_rfl) rfl
     have s29:=hf.eq_ 5 29 (by kernel_rfl) rfl
     have s30:=hf.eq_ 6 30 (by kernel_rfl) rfl
     have s31:=hf.eq_ 7 31 (by kernel_rfl) rfl
     have s32:=hf.eq_ 8 32 (by kernel_rfl) rfl
     have s33:=hf.eq_ 9 33 (by kernel_rfl) rfl
     have s34:=hf.eq_ 10 34 (by kernel_rfl) rfl
     have s35:=hf.eq_ 11 35 (by kernel_rfl) rfl
     have s36:=hf.eq_ 12 36 (by kernel_rfl) rfl
     have s37:=hf.eq_ 13 37 (by kernel_rfl) rfl
     have s38:=hf.eq_ 14 38 (by kernel_rfl) rfl
     have s39:=hf.eq_ 15 39 (by kernel_rfl) rfl
     have hx:=hf.ext
     have e:=hf.frame
     clear hf
     simp only [regFrame,Act.put,List.setIfInBounds_toArray,List.set_cons_zero,List.set_cons_succ,s24,s25,s26,s27,s28,s29,s30,s31,s32,s33,s34,s35,s36,s37,s38,s39] at e
     clear s24 s25 s26 s27 s28 s29 s30 s31 s32 s33 s34 s35 s36 s37 s38 s39
     subst e
     have ha:=HA.out
     have hz:=(ha.1.later (by rw [z64_length];omega) hx).apart (G+1) ((i+1)*16) (cellsOf SJ) (by omega)
     have hs:=(ha.2.1.later (by rw [wS_length];omega) hx).setBlk (i+1) SJ (by omega) HLJ.out
     rw [← HN.out.2.2,wS_next,HN.out.2.2] at hs
     have hh:=(ha.2.2.1.later (by rw [HLS.out.2];omega) hx).apart (G+1) ((i+1)*16) (cellsOf SJ) (by omega)
     have hxx:=below_setCells (B:=w.heap.size) (b:=G+1) (a:=w) (by have:=HG.out;omega) (cellsOf SJ) ((i+1)*16) w1 (Ext.trans ha.2.2.2 hx)
     refine wp_store_arr 133 (.tmp 39) (.tmp 38) rfl rfl (G+1) ((i+1)*16) SJ rfl rfl (HTH.out w1 hx) (size55' HLJ.out) ?_
     obtain ⟨W7,hW7⟩:∃ W7,w1.setCells (G+1) ((i+1)*16) (cellsOf SJ)=W7:=⟨_,rfl⟩
     rw [hW7] at hz hs hh hxx ⊢
     have hb:=hs.blk i (by omega) (by rw [if_pos (by omega)];exact seedL_length key i)
     rw [if_pos (by omega),HN.out.1] at hb
     have hz8:=hz.apart (G+1+1) 0 (cellsOf SI) (by omega)
     have hs8:=hs.apart (G+1+1) 0 (cellsOf SI) (by omega)
     have hh8:=hh.store0 SI (by rw [HLS.out.1,HLS.out.2])
     have hx8:=below_setCells (B:=w.heap.size) (b:=G+1+1) (a:=w) (by have:=HG.out;omega) (cellsOf SI) 0 W7 hxx
     have HB:=hid hb.rd
     have HTH8:=hid (show W7.there (G+1+1) 0 SI.length by rw [HLS.out.1,← HLS.out.2];exact hh.wr)
     obtain ⟨W8,hW8⟩:∃ W8,W7.setCells (G+1+1) 0 (cellsOf SI)=W8:=⟨_,rfl⟩
     rw [hW8] at hz8 hs8 hh8 hx8
     have HQ8:=hid (And.intro hz8 (And.intro hs8 (And.intro (show RW W8 (G+1+1) 0 (headL key (i+1)) by rw [headL_succ,HN.out.1];exact hh8) hx8)))
     have HW8:=hid hW8
     have HSI:=hid (size55' HLS.out.1)
     have hi4:(i:Int) < 4:=by omega
     clear hx hW7 hW8 ha hz hs hh hxx hb hz8 hs8 hh8 hx8 HA HS HTB HSV HCO HSJ HTH
     go_wp2_with (first
      | (refine wpList_ld rfl 133 (.tmp 41) rfl (G+1) (i*16) rfl SI HB.out Tryz.underlying133 HSI.out ?_)
      | (refine wpList_st rfl 133 (.tmp 6) (.tmp 42) rfl (G+1+1) 0 SI rfl rfl HTH8.out HSI.out ?_;rw [HW8.out];clear HW8 HTH8 HB))
     go_roundw
     case rel=>exact ⟨i+1,by omega,by go_num,HQ8.out⟩
     case measure=>simp [intOf];omega
   ·obtain rfl:i=3:=by omega
    rw [wS_full] at hS
    have hs:=hZ.store0 (FL (seedL key) 4) (by rw [FL_length,z64_length])
    have hx2:=below_setCells (B:=w.heap.size) (b:=G) (a:=w) (by have:=HG.out;omega) (cellsOf (FL (seedL key) 4)) 0 wr hx
    have HO:=hid hS.rd
    have HS:=hid hs.rd
    have HX2:=hid hx2
    have HSZ:=hid (size73' (FL_length (seedL key) 4))
    have HTH:=hid (show wr.there G 0 (FL (seedL key) 4).length by rw [FL_length];have:=hZ.wr;rw [z64_length] at this;exact this)
    clear hZ hS hH hx hs hx2
    go_wp2_with (first
     | (refine wpList_ld rfl 197 (.tmp 5) rfl (G+1) 0 rfl (FL (seedL key) 4) HO.out Tryz.underlying197 HSZ.out ?_)
     | (refine wpList_st rfl 197 (.tmp 4) (.tmp 44) rfl G 0 (FL (seedL key) 4) rfl rfl HTH.out HSZ.out ?_))
    refine ret_mid rfl rfl G (FL (seedL key) 4) rfl HS.out Tryz.underlying197 HSZ.out ⟨rfl,HX2.out⟩
end Go.Proofs.YtbgkmicelmenfaaGreatDoor.A
namespace Go.Proofs.YtbgkmicelmenfaaGreatDoor.A
open Go.RowKit
set_option maxRecDepth 100000
theorem cf37 (vs:Array Value) (w:World):(callFunc 98 vs).run Tryz.prog w=.ok (.enter 98 vs) w:=by go_simp
theorem inf55:(Tryz.prog.info? 133).map (fun i=>(i.zero,i.size,i.bytes))=some (some (.agg (cellsOf z16).toArray),16,16):=by kernel_rfl
theorem made_z16 (n:Nat):(madeCells (Value.agg (cellsOf z16).toArray).cells (n*16)).toList=cellsOf (FL (fun _=>z16) n):=by
 rw [FL_zero]
 apply List.ext_getElem
 ·simp [madeCells,cellsOf]
 ·intro i h1 h2
  have r:(cellsOf (List.replicate (n*16) 0))[i] = Value.int .u8 0:=by simp [cellsOf]
  rw [r]
  have e:∀ k < 16,(Value.agg (cellsOf z16).toArray).cells[k]! = .int .u8 0:=by
   intro k hk
   match k,hk with | 0,_=>exact rfl | 1,_=>exact rfl | 2,_=>exact rfl | 3,_=>exact rfl | 4,_=>exact rfl | 5,_=>exact rfl | 6,_=>exact rfl | 7,_=>exact rfl | 8,_=>exact rfl | 9,_=>exact rfl | 10,_=>exact rfl | 11,_=>exact rfl | 12,_=>exact rfl | 13,_=>exact rfl | 14,_=>exact rfl | 15,_=>exact rfl | k+16,h=>exact absurd h (by omega)
  have hs:(Value.agg (cellsOf z16).toArray).cells.size=16:=rfl
  simp only [madeCells,Array.toList_map,Array.toList_range,List.getElem_map,List.getElem_range]
  rw [hs]
  exact e _ (Nat.mod_lt _ (by omega))
theorem wpL_makeBlk {w:World} {ops:Array Oper} {rest:List Oper} {o:Oper} {a:Act} {Q:Exit→Act→World→Prop}
  (hg:o.guard=none) (l c:Operand) (hop:o.op=Op.makeSlice 138 l c) (n:Nat) (hl:a.eval l=.int .i64 n) (hc:a.eval c=.int .i64 n) (hn:n≤1000)
  (hK:∀ w',RW w' w.heap.size 0 (FL (fun _=>z16) n)→Ext w w'→wpList Tryz.prog ops Q rest (a.put o.dst (.slice (some ⟨w.heap.size,0,none⟩) n n)) w') :
  wpList Tryz.prog ops Q (o::rest) a w:=by
 obtain ⟨i0,hi0,hz0,hz1,hz2⟩:=info_parts inf55
 refine wpList_make_full w hg l c 138 hop w.heap.size 133 i0 _ 16 Tryz.underlying138 hi0 hz0 hz1 .i64 .i64 n n n hl hc rfl rfl (by rw [hz2];omega) (by unfold maxLen;omega) (Nat.le_refl _) ?_
 intro w' hown hgr
 refine hK w' ?_ ((Below.refl _ _).grown hgr (Nat.le_refl _) (by simp))
 rw [made_z16] at hown
 rcases hown.2 with ⟨h,_⟩ | ⟨g,cap,cur,h,_,hh,_,_,hsz,htk⟩
 ·cases h
 ·simp only [Value.slice.injEq,Option.some.injEq,Addr.mk.injEq,and_true] at h
  obtain ⟨rfl,_,rfl⟩:=h
  rw [List.take_of_length_le (by simp;omega)] at htk
  refine RW.of_block (t:=133) ?_
  rw [hh,← htk]
def kS (key:List UInt8) (N i:Nat):List UInt8:=FL (fun j=>if j < i then keyF key j else z16) N
theorem kS_length (key:List UInt8) (N i:Nat):(kS key N i).length=N*16:=FL_length _ _
theorem kS_zero (key:List UInt8) (N:Nat):FL (fun _=>z16) N=kS key N 0:=FL_congr fun j _=>by simp
theorem kS_full (key:List UInt8) (N:Nat):kS key N N=FL (keyF key) N:=FL_congr fun j hj=>by simp [hj]
theorem kS_next (key:List UInt8) (i N:Nat):FL (fun k=>if k=i then keyF key i else (if k < i then keyF key k else z16)) N=kS key N (i+1):=FL_congr fun j _=>by
 by_cases h:j=i
 ·subst h;simp
 ·by_cases h2:j < i
  ·simp only [h,if_false,h2,if_true,show j < i+1 by omega]
  ·simp only [h,if_false,h2,show ¬ j < i+1 by omega]
def Tu (w:World):Prop:=∀ q,q < 5→w.cell? ⟨3,q,none⟩=some (.int .i64 (turnT q))
theorem Tu.later {w w':World} (h:Tu w) (hx:Ext w w'):Tu w':=fun q hq=>(Below.cell hx (p:=⟨3,q,none⟩) (World.block_lt_of_cell? w _ (h q hq))).trans (h q hq)
def keyKs (S K i N q4 d4:Nat) (SA SB KF:List UInt8):List Go.Proofs.YtbgkmicelmenfaaGreatDoor.K:=[.eq (.slice (some ⟨K,0,none⟩) N N),.eq (.int .i64 i),.eq (.int .i64 i),.eq (.int .i64 q4),.eq (.pointer (some ⟨S,q4*16,none⟩)),.eq (bv SA),.byt 16 (SB),.eq (.int .i64 i),.eq (.int .i64 d4),.eq (.pointer (some ⟨3,d4,none⟩)),.eq (.int .i64 (turnT d4)),.byt 16 (turnB SB d4),.gen (AtP (turnB SB d4)) (AtP.keep _),.eq (bv (turnB SB d4)),.eq (bv KF),.eq (.pointer (some ⟨K,i*16,none⟩)),.any]
set_option maxHeartbeats 4000000 in
theorem keys_any (g n c:Nat) (A:Option Addr) (key:List UInt8) (w:World) (h:Rd w w.heap.size A n key) (hn:n=16∨n=24∨n=32) (hc:n≤c) (ht:TB w g) (hs:Sev w) (hco:Con w) (htu:Tu w) :
  Calls Tryz.prog 64 #[.pointer (some ⟨g,0,none⟩),.slice A n c] w fun e w'=>∃ K,e=.returned (.slice (some ⟨K,0,none⟩) (keyN key) (keyN key))∧w.heap.size≤K∧RW w' K 0 (FL (keyF key) (keyN key))∧Ext w w':=by
 have hl:=h.len
 have HC:=hid (seeds_any g n c A key w h hn hc ht hs hco)
 have HTU0:=hid htu
 obtain ⟨N,hN⟩:∃ N,keyN key=N:=⟨_,rfl⟩
 have hNn:9+n / 4=N:=by rw [← hN,keyN,hl]
 have HN0:=hid hN
 rw [hN]
 obtain ⟨D,hD⟩:∃ D,n / 4=D:=⟨_,rfl⟩
 have htd:(n:Int).tdiv 4=(D:Int):=by rw [Int.tdiv_eq_ediv_of_nonneg (by omega)];omega
 have h9:9+(D:Int)=(N:Int):=by omega
 have hD8:(D:Int)≤8:=by omega
 have hN1:13≤N∧N≤17:=by omega
 clear h ht hs hco htu hN hl hNn hD
 go_enter Tryz.func64,Tryz.ntmps64
 go_wp2_with fail
 refine HC.out.mono ?_
 rintro e w1 ⟨rfl,hx1⟩
 have h5:=RW.new w1 197 z64
 have x5:=Ext.alloc w1 (.cells (cellsOf z64).toArray 197)
 obtain ⟨W2,hW2⟩:∃ W2,w1.alloc (.cells (cellsOf z64).toArray 197)=W2:=⟨_,rfl⟩
 rw [hW2] at h5 x5
 obtain ⟨S,hS⟩:∃ S,w1.heap.size=S:=⟨_,rfl⟩
 rw [hS] at h5
 have h6:=h5.store0 (FL (seedL key) 4) (by rw [FL_length,z64_length])
 have hx5:=hx1.trans x5
 have hx6:=below_setCells (B:=w.heap.size) (b:=S) (a:=w) (by have:=hx1.size;omega) (cellsOf (FL (seedL key) 4)) 0 W2 hx5
 have HTH:=hid (show W2.there S 0 (FL (seedL key) 4).length by rw [FL_length];have:=h5.wr;rw [z64_length] at this;exact this)
 have HSZ:=hid (size73' (FL_length (seedL key) 4))
 obtain ⟨W3,hW3⟩:∃ W3,W2.setCells S 0 (cellsOf (FL (seedL key) 4))=W3:=⟨_,rfl⟩
 rw [hW3] at h6 hx6
 have hSW:S < W3.heap.size:=h6.lt (by rw [FL_length];omega)
 have HW:=hid (And.intro hW2 (And.intro hS hW3))
 have H6:=hid h6
 have HX6:=hid hx6
 have HSW:=hid hSW
 clear HC hx1 h5 x5 hW2 hS h6 hx5 hx6 hW3 hSW
 go_wp2_with (first
  | (rw [← cells_z64,HW.out.1,HW.out.2.1];refine wpList_st rfl 197 (.tmp 5) (.tmp 11) rfl S 0 (FL (seedL key) 4) rfl rfl HTH.out HSZ.out ?_;rw [HW.out.2.2];clear HW HTH)
  | (at_make;refine wpL_makeBlk rfl (.tmp 15) (.tmp 15) rfl N rfl rfl (by omega) ?_;intro w4 hB hx4))
 have hsz4:=hx4.size
 obtain ⟨K,hK⟩:∃ K,W3.heap.size=K:=⟨_,rfl⟩
 have HKB:=hid (show w.heap.size≤K by rw [← hK];exact HX6.out.size)
 have HSK:=hid (show S ≠ K by have:=HSW.out;omega)
 rw [hK] at hB ⊢
 rw [kS_zero key] at hB
 have HQ4:=hid (And.intro hB (And.intro (H6.out.later (by rw [FL_length];omega) hx4) (Ext.trans HX6.out hx4)))
 clear hsz4 hK hB hx4 htd h9 hD8 H6 HX6 HSW
 go_loopw [19] (fun v wr=>∃ i:Nat,i≤N∧v=.int .i64 i∧RW wr K 0 (kS key N i)∧RW wr S 0 (FL (seedL key) 4)∧Ext w wr) (fun v _=>N - (intOf v).toNat)
 case atStart=>exact ⟨0,by omega,rfl,HQ4.out⟩
 case round =>
  clear HQ4
  obtain ⟨i,hi,rfl,hO,hS,hx⟩:=hrel
  by_cases hlt:i < N
  ·have HI3:=hid hlt
   have HTU:=hid (HTU0.out.later hx)
   obtain ⟨p4,hp4⟩:∃ p,(i+1) % 4=p:=⟨_,rfl⟩
   obtain ⟨q4,hq4⟩:∃ q,i % 4=q:=⟨_,rfl⟩
   obtain ⟨d4,hd4⟩:∃ d,i / 4=d:=⟨_,rfl⟩
   have hpt:((i:Int)+1).tmod 4=(p4:Int):=by rw [Int.tmod_eq_emod_of_nonneg (by omega)];omega
   have hp44:(p4:Int) < 4:=by omega
   have HQ:=hid (show (i:Int).tmod 4=(q4:Int)∧q4 < 4∧(i:Int).tdiv 4=(d4:Int)∧d4 < 5 from ⟨by rw [Int.tmod_eq_emod_of_nonneg (by omega)];omega,by omega,by rw [Int.tdiv_eq_ediv_of_nonneg (by omega)];omega,by omega⟩)
   have hbp:=hS.blk p4 (by omega) (seedL_length key p4)
   have hbq:=hS.blk q4 (by omega) (seedL_length key q4)
   have hKF:keyF key i=xorL (seedL key q4) (turnB (seedL key p4) d4) 16:=by rw [keyF,hp4,hq4,hd4]
   obtain ⟨SA,hSA⟩:∃ SA,seedL key q4=SA:=⟨_,rfl⟩
   obtain ⟨SB,hSB⟩:∃ SB,seedL key p4=SB:=⟨_,rfl⟩
   obtain ⟨KF,hKF2⟩:∃ KF,keyF key i=KF:=⟨_,rfl⟩
   have HLS:=hid (show SA.length=16∧SB.length=16 by rw [← hSA,← hSB];exact ⟨seedL_length key _,seedL_length key _⟩)
   rw [hSA] at hbq
   rw [hSB] at hbp
   have HKF:=hid (show xorL SA (turnB SB d4) 16=KF by rw [← hKF2,hKF,hSA,hSB])
   have HLF:=hid (show KF.length=16 by rw [← hKF2];exact keyF_length key i)
   have HN:=hid (And.intro hSA hKF2)
   have HBP:=hid hbp.rd
   have h5:=RW.new wr 133 z16
   have x5:=Ext.alloc wr (.cells (cellsOf z16).toArray 133)
   obtain ⟨W5,hW5⟩:∃ W5,wr.alloc (.cells (cellsOf z16).toArray 133)=W5:=⟨_,rfl⟩
   rw [hW5] at h5 x5
   have gK:=hO.lt (by rw [kS_length];omega)
   have gS:=hS.lt (by rw [FL_length];omega)
   obtain ⟨V,hV⟩:∃ V,wr.heap.size=V:=⟨_,rfl⟩
   rw [hV] at h5 gK gS
   have h6:=h5.store0 SB (by rw [HLS.out.2,z16_length])
   have hO6:=(hO.later (by rw [kS_length];omega) x5).apart V 0 (cellsOf SB) (by omega)
   have hS6:=(hS.later (by rw [FL_length];omega) x5).apart V 0 (cellsOf SB) (by omega)
   have hbq6:=(hbq.later (by rw [HLS.out.1];omega) x5).apart V 0 (cellsOf SB) (by omega)
   have hx6:=below_setCells (B:=w.heap.size) (b:=V) (a:=w) (by have:=HKB.out;omega) (cellsOf SB) 0 W5 (Ext.trans hx x5)
   have hx6r:=below_setCells (B:=wr.heap.size) (b:=V) (a:=wr) (by omega) (cellsOf SB) 0 W5 x5
   have HTH:=hid (show W5.there V 0 SB.length by rw [HLS.out.2];have:=h5.wr;rw [z16_length] at this;exact this)
   obtain ⟨W6,hW6⟩:∃ W6,W5.setCells V 0 (cellsOf SB)=W6:=⟨_,rfl⟩
   rw [hW6] at h6 hO6 hS6 hbq6 hx6 hx6r
   have HA:=hid (And.intro hO6 (And.intro hS6 hx6))
   have HSA:=hid hbq6.rd
   have HSB:=hid h6
   have HTU:=hid (HTU.out.later hx6r)
   have HW:=hid (And.intro hW5 (And.intro hV hW6))
   have HSZ:=hid (size55' HLS.out.2)
   clear hO hS hx hbp hbq hKF hSA hSB hKF2 h5 x5 hW5 hW6 hV gK gS h6 hO6 hS6 hbq6 hx6 hx6r hp4 hq4 hd4
   go_wp2_with (first
    | (refine wpList_ld rfl 133 (.tmp 25) rfl S (p4*16) rfl SB HBP.out Tryz.underlying133 HSZ.out ?_)
    | (rw [← cells_z16,HW.out.1,HW.out.2.1];refine wpList_st rfl 133 (.tmp 8) (.tmp 26) rfl V 0 SB rfl rfl HTH.out HSZ.out ?_;rw [HW.out.2.2];clear HW HTH HBP))
   refine region_tail 16 _ mixed rfl (by kernel_rfl) (by kernel_rfl) rfl rfl rfl (kV (keyKs S K i N q4 d4 SA SB KF)) (kV_keep _) (forall_ops ⟨?_,?_,?_,?_,?_,?_,?_,?_,?_,?_,?_,?_,?_,?_,?_,?_,fun h=>absurd rfl h,trivial⟩) ?_
   ·intro _ a w hk
    have s6:a.tmps.getD 6 undef=.slice (some ⟨K,0,none⟩) N N:=hk.was 6 (by kernel_rfl) rfl
    exact step_move rfl rfl s6 rfl
   ·intro _ a w hk
    have s7:a.tmps.getD 7 undef=.int .i64 i:=hk.was 7 (by kernel_rfl) rfl
    exact step_move rfl rfl s7 rfl
   ·intro _ a w hk
    have s7:a.tmps.getD 7 undef=.int .i64 i:=hk.was 7 (by kernel_rfl) rfl
    exact step_move rfl rfl s7 rfl
   ·intro _ a w hk
    have s29:=hk.eq_ 2 29 (by kernel_rfl) rfl
    refine step_val (v:=.int .i64 q4) (w':=w) rfl ?_ (Ext.refl w) rfl
    have e:=HQ.out.1
    go_simp
   ·intro _ a w hk
    have s5:a.tmps.getD 5 undef=.pointer (some ⟨S,0,none⟩):=hk.was 5 (by kernel_rfl) rfl
    have s30:=hk.eq_ 3 30 (by kernel_rfl) rfl
    refine step_val (v:=.pointer (some ⟨S,q4*16,none⟩)) (w':=w) rfl ?_ (Ext.refl w) rfl
    have hi3:(q4:Int) < 4:=by have:=HQ.out.2.1;omega
    go_simp
   ·intro _ a w hk
    have s31:=hk.eq_ 4 31 (by kernel_rfl) rfl
    exact step_val (v:=bv SA) (w':=w) rfl (exec_load_mid rfl s31 (rangeAt_later HSA.out hk.ext) Tryz.underlying133 (size55' HLS.out.1)) (Ext.refl w) rfl
   ·intro _ a w hk
    have s8:a.tmps.getD 8 undef=.pointer (some ⟨V,0,none⟩):=hk.was 8 (by kernel_rfl) rfl
    refine step_val (v:=.slice (some ⟨V,0,none⟩) 16 16) (w':=w) rfl ?_ (Ext.refl w) ⟨_,_,rfl,((HSB.out.later (by rw [HLS.out.2];omega) hk.ext).slice HLS.out.2 ((HSB.out.later (by rw [HLS.out.2];omega) hk.ext).lt (by rw [HLS.out.2];omega)))⟩
    go_simp
   ·intro _ a w hk
    have s7:a.tmps.getD 7 undef=.int .i64 i:=hk.was 7 (by kernel_rfl) rfl
    exact step_move rfl rfl s7 rfl
   ·intro _ a w hk
    have s34:=hk.eq_ 7 34 (by kernel_rfl) rfl
    refine step_val (v:=.int .i64 d4) (w':=w) rfl ?_ (Ext.refl w) rfl
    have e:=HQ.out.2.2.1
    go_simp
    exact IntWalk.i64_in _ (by have:=HQ.out.2.2.2;omega)
   ·intro _ a w hk
    have s35:=hk.eq_ 8 35 (by kernel_rfl) rfl
    refine step_val (v:=.pointer (some ⟨3,d4,none⟩)) (w':=w) rfl ?_ (Ext.refl w) rfl
    have hi3:(d4:Int) < 5:=by have:=HQ.out.2.2.2;omega
    go_simp
   ·intro _ a w hk
    have s36:=hk.eq_ 9 36 (by kernel_rfl) rfl
    refine step_val (v:=.int .i64 (turnT d4)) (w':=w) rfl ?_ (Ext.refl w) rfl
    have hc:=(HTU.out.later hk.ext) d4 HQ.out.2.2.2
    go_simp
   ·intro _ a w hk
    obtain ⟨A33,c33,s33,r33⟩:=hk.byt_ 6 33 (by kernel_rfl) rfl
    have s37:=hk.eq_ 10 37 (by kernel_rfl) rfl
    exact step_call rfl rfl (by simp only [List.map_toArray,List.map_cons,List.map_nil,Act.eval,s33,s37]<;>rfl) cf37 (turn_all A33 16 c33 (turnT d4) SB w r33 (by omega)) (fun e w1 h=>RetB.k (turnB_length SB d4) e w1 h)
   ·intro _ a w hk
    obtain ⟨A38,c38,s38,r38⟩:=hk.byt_ 11 38 (by kernel_rfl) rfl
    obtain ⟨b,o,rfl,_,_⟩:=r38.at_ (by omega)
    exact step_val (v:=.pointer (some ⟨b,o,none⟩)) (w':=w) rfl (exec_atp rfl s38 Tryz.underlying133 (Nat.le_refl _)) (Ext.refl w) ⟨b,o,rfl,rangeAt_of_rd r38⟩
   ·intro _ a w hk
    obtain ⟨b39,o39,s39,g39⟩:=hk.val 12 39 (by kernel_rfl) rfl
    exact step_val (v:=bv (turnB SB d4)) (w':=w) rfl (exec_load_mid rfl s39 g39 Tryz.underlying133 (size55' (turnB_length SB d4))) (Ext.refl w) rfl
   ·intro _ a w hk
    have s32:=hk.eq_ 5 32 (by kernel_rfl) rfl
    have s40:=hk.eq_ 13 40 (by kernel_rfl) rfl
    exact step_call rfl rfl (by simp only [List.map_toArray,List.map_cons,List.map_nil,Act.eval,s32,s40]<;>rfl) cf36 (xored_any SA (turnB SB d4) w HLS.out.1 (turnB_length _ _)) (fun e w1 h=>retX e w1 (by rw [HKF.out] at h;exact h))
   ·intro _ a w hk
    have s27:=hk.eq_ 0 27 (by kernel_rfl) rfl
    have s28:=hk.eq_ 1 28 (by kernel_rfl) rfl
    refine step_val (v:=.pointer (some ⟨K,i*16,none⟩)) (w':=w) rfl ?_ (Ext.refl w) rfl
    have hi3:(i:Int) < N:=by have:=HI3.out;omega
    go_simp
   ·intro a w1 hf
    have s27:=hf.eq_ 0 27 (by kernel_rfl) rfl
    have s28:=hf.eq_ 1 28 (by kernel_rfl) rfl
    have s29:=hf.eq_ 2 29 (by kernel_rfl) rfl
    have s30:=hf.eq_ 3 30 (by kernel_rfl) rfl
    have s31:=hf.eq_ 4 31 (by kernel_rfl) rfl
    have s32:=hf.eq_ 5 32 (by kernel_rfl) rfl
    obtain ⟨A33,c33,s33,r33⟩:=hf.val 6 33 (by kernel_rfl) rfl
    have s34:=hf.eq_ 7 34 (by kernel_rfl) rfl
    have s35:=hf.eq_ 8 35 (by kernel_rfl) rfl
    have s36:=hf.eq_ 9 36 (by kernel_rfl) rfl
    have s37:=hf.eq_ 10 37 (by kernel_rfl) rfl
    obtain ⟨A38,c38,s38,r38⟩:=hf.val 11 38 (by kernel_rfl) rfl
    obtain ⟨b39,o39,s39,g39⟩:=hf.val 12 39 (by kernel_rfl) rfl
    have s40:=hf.eq_ 13 40 (by kernel_rfl) rfl
    have s41:=hf.eq_ 14 41 (by kernel_rfl) rfl
    have s42:=hf.eq_ 15 42 (by kernel_rfl) rfl
    have hx:=hf.ext
    have e:=hf.frame
    clear hf
    simp only [regFrame,Act.put,List.setIfInBounds_toArray,List.set_cons_zero,List.set_cons_succ,s27,s28,s29,s30,s31,s32,s33,s34,s35,s36,s37,s38,s39,s40,s41,s42] at e
    clear s27 s28 s29 s30 s31 s32 s33 s34 s35 s36 s37 s38 s39 s40 s41 s42
    subst e
    have ha:=HA.out
    have ho:=(ha.1.later (by rw [kS_length];have:=HI3.out;omega) hx).setBlk i KF HI3.out HLF.out
    rw [← HN.out.2,kS_next,HN.out.2] at ho
    have hs:=(ha.2.1.later (by rw [FL_length];omega) hx).apart K (i*16) (cellsOf KF) HSK.out
    have hxx:=below_setCells (B:=w.heap.size) (b:=K) (a:=w) HKB.out (cellsOf KF) (i*16) w1 (Ext.trans ha.2.2 hx)
    refine wp_store_arr 133 (.tmp 42) (.tmp 41) rfl rfl K (i*16) KF rfl rfl (fun j hj=>by
     have h2:=(ha.1.later (by rw [kS_length];have:=HI3.out;omega) hx).wr (i*16+j) (by rw [kS_length];rw [HLF.out] at hj;have:=HI3.out;omega)
     rwa [Nat.zero_add] at h2) (size55' HLF.out) ?_
    obtain ⟨W7,hW7⟩:∃ W7,w1.setCells K (i*16) (cellsOf KF)=W7:=⟨_,rfl⟩
    rw [hW7] at ho hs hxx ⊢
    have HQ8:=hid (And.intro ho (And.intro hs hxx))
    clear hx hW7 ha ho hs hxx HA HSA HSB HTU HKF r33 r38 g39
    go_wp2_with fail
    go_roundw
    case rel=>exact ⟨i+1,by omega,by go_num,HQ8.out⟩
    case measure=>simp [intOf];omega
  ·obtain rfl:i=N:=by omega
   rw [kS_full] at hO
   have HQ:=hid (And.intro hO hx)
   clear hO hS hx
   go_wp2_with fail
   go_ret
   exact ⟨K,rfl,HKB.out,HQ.out⟩
end Go.Proofs.YtbgkmicelmenfaaGreatDoor.A
namespace Go.Proofs.YtbgkmicelmenfaaGreatDoor.A
open Go.RowKit
set_option maxRecDepth 100000
def z1024:List UInt8:=List.replicate 1024 0
theorem z1024_length:z1024.length=1024:=List.length_replicate
theorem zc50:Tryz.zeroCells130 = (cellsOf z1024).toArray:=by kernel_rfl
def tS (i:Nat):List UInt8:=(List.range 1024).map fun p=>if p < i*256 then (tabT (p / 256)).getD (p % 256) 0 else 0
theorem tS_length (i:Nat):(tS i).length=1024:=by simp [tS]
theorem tS_zero:tS 0=z1024:=by
 apply List.ext_getElem
 ·rw [tS_length,z1024_length]
 ·intro p h1 h2
  simp only [tS,List.getElem_map,Nat.zero_mul,Nat.not_lt_zero,if_false]
  exact (List.getElem_replicate _).symm
theorem tS_full:tS 4=tabB:=by decide +kernel
theorem heap_setCells_ne (g:Nat):∀ (vs:List Value) (o:Nat) (w:World) (k:Nat),k ≠ g→(w.setCells g o vs).heap[k]? = w.heap[k]?
 | [],_,_,_,_=>rfl
 | v::vs,o,w,k,h=>(heap_setCells_ne g vs (o+1) _ k h).trans (heap_setCell_other w ⟨g,o,none⟩ k v h)
theorem tS_next (i:Nat) (_hi:i < 4):lay (tS i) (i*256) (tabT i)=tS (i+1):=by
 unfold lay
 rw [tS_length]
 refine List.map_congr_left fun p hp=>?_
 have hp:=List.mem_range.1 hp
 rw [tabT_length]
 by_cases h:i*256≤p∧p < i*256+256
 ·rw [if_pos h,if_pos (by omega),show p / 256=i by omega,show p - i*256=p % 256 by omega]
 ·rw [if_neg h]
  have e:(tS i).getD p 0=if p < i*256 then (tabT (p / 256)).getD (p % 256) 0 else 0:=by simp [tS,List.getD_eq_getElem?_getD,hp]
  rw [e]
  by_cases h2:p < i*256
  ·have h3:p < (i+1)*256:=by clear e hp;omega
   rw [if_pos h2,if_pos h3]
  ·have h3:¬ p < (i+1)*256:=by clear e;omega
   rw [if_neg h2,if_neg h3]
def Rws (w:World):Prop:=w.rangeAt 1 0 (cellsOf rows1)∧w.rangeAt 2 0 (cellsOf rows2)
theorem Rws.later {w w':World} (h:Rws w) (hx:Ext w w'):Rws w':=⟨rangeAt_later h.1 hx,rangeAt_later h.2 hx⟩
theorem sz71 {bs:List UInt8} (h:bs.length=8):(Tryz.prog.info? 194).map (·.size)=some (cellsOf bs).length:=by rw [size33,cellsOf_length,h]
theorem mk_s1 (w:World) (ho:Odd w):Calls Tryz.prog 114 #[.int .i64 254,.int .i64 283,.agg (cellsOf rows1).toArray,.int .u8 99] w (RetB w S1):=by
 have h:=make_any 254 283 99 rows1 w rfl (by omega) rest283 (by omega) ho
 rw [mk1] at h
 exact h
theorem mk_s2 (w:World) (ho:Odd w):Calls Tryz.prog 114 #[.int .i64 247,.int .i64 283,.agg (cellsOf rows2).toArray,.int .u8 226] w (RetB w S2):=by
 have h:=make_any 247 283 226 rows2 w rfl (by omega) rest283 (by omega) ho
 rw [mk2] at h
 exact h
theorem bk_s1 (A:Option Addr) (c:Nat) (w:World) (h:Rd w w.heap.size A 256 S1):Calls Tryz.prog 115 #[.slice A 256 c] w fun e w'=>∃ A' c',e=.returned (.tuple #[.slice A' 256 c',.bool true])∧Rd w' w'.heap.size A' 256 X1∧Ext w w':=by
 refine (back_any A 256 c S1 w h (by omega)).mono ?_
 rintro e w' ⟨A',c',rfl,hr,hx⟩
 rw [out1,show X1.length=256 from tabT_length 2] at hr ⊢
 rw [isB_of isT_S1]
 exact ⟨A',c',rfl,hr,hx⟩
theorem bk_s2 (A:Option Addr) (c:Nat) (w:World) (h:Rd w w.heap.size A 256 S2):Calls Tryz.prog 115 #[.slice A 256 c] w fun e w'=>∃ A' c',e=.returned (.tuple #[.slice A' 256 c',.bool true])∧Rd w' w'.heap.size A' 256 X2∧Ext w w':=by
 refine (back_any A 256 c S2 w h (by omega)).mono ?_
 rintro e w' ⟨A',c',rfl,hr,hx⟩
 rw [out2,show X2.length=256 from tabT_length 3] at hr ⊢
 rw [isB_of isT_S2]
 exact ⟨A',c',rfl,hr,hx⟩
set_option maxHeartbeats 4000000 in
theorem makeBoxes_any (w:World) (ho:Odd w) (hr:Rws w):Calls Tryz.prog 63 #[] w fun e w'=>e=.returned (bv tabB)∧Ext w w':=by
 unfold bv
 have h1:=RW.new w 130 z1024
 have x1:=Ext.alloc w (.cells (cellsOf z1024).toArray 130)
 obtain ⟨W1,hW1⟩:∃ W1,w.alloc (.cells (cellsOf z1024).toArray 130)=W1:=⟨_,rfl⟩
 rw [hW1] at h1 x1
 obtain ⟨R0,hR0⟩:∃ R0,w.heap.size=R0:=⟨_,rfl⟩
 rw [hR0] at h1
 have HW1:=hid (And.intro hW1 hR0)
 have HX0:=hid (show w.heap.size≤R0 by omega)
 have H1:=hid h1
 have X1x:=hid x1
 have HO:=hid (ho.later x1)
 have HRW:=hid (hr.later x1)
 clear h1 x1 hW1 hR0 ho hr
 go_enter Tryz.func63,Tryz.ntmps63
 go_wp2_with (first
  | (rw [zc50,HW1.out.1,HW1.out.2];refine wpList_ld rfl 194 (.global 1) rfl 1 0 rfl rows1 HRW.out.1 Tryz.underlying194 (sz71 rfl) ?_))
 refine (mk_s1 _ HO.out).mono ?_
 rintro e w2 ⟨v1,rfl,ho1,hx2⟩
 have HX2:=hid hx2
 obtain ⟨A1,c1,rfl,hr1,_⟩:=ho1.rdn (n:=256) (tabT_length 0)
 have HR1:=hid hr1
 clear ho1 hx2 hr1
 go_wp2_with (refine wpList_ld rfl 194 (.global 2) rfl 2 0 rfl rows2 (HRW.out.later HX2.out).2 Tryz.underlying194 (sz71 rfl) ?_)
 refine (mk_s2 _ (HO.out.later HX2.out)).mono ?_
 rintro e w3 ⟨v2,rfl,ho2,hx3⟩
 have HX3:=hid (Ext.trans HX2.out hx3)
 obtain ⟨A2,c2,rfl,hr2,_⟩:=ho2.rdn (n:=256) (tabT_length 1)
 have HR1:=hid (HR1.out.later hx3)
 have HR2:=hid hr2
 clear ho2 hx3 hr2
 go_wp2_with fail
 refine (bk_s1 _ _ _ HR1.out).mono ?_
 rintro e w4 ⟨A3,c3,rfl,hr3,hx4⟩
 have HX4:=hid (Ext.trans HX3.out hx4)
 have HR1:=hid (HR1.out.later hx4)
 have HR2:=hid (HR2.out.later hx4)
 have HR3:=hid hr3
 clear hx4 hr3
 go_wp2_with fail
 refine (bk_s2 _ _ _ HR2.out).mono ?_
 rintro e w5 ⟨A4,c4,rfl,hr4,hx5⟩
 have HX5:=hid (Ext.trans HX4.out hx5)
 have HR1:=hid (HR1.out.later hx5)
 have HR2:=hid (HR2.out.later hx5)
 have HR3:=hid (HR3.out.later hx5)
 have HR4:=hid hr4
 clear hx5 hr4
 have h6:=RW.new w5 130 z1024
 have x6:=Ext.alloc w5 (.cells (cellsOf z1024).toArray 130)
 obtain ⟨W6,hW6⟩:∃ W6,w5.alloc (.cells (cellsOf z1024).toArray 130)=W6:=⟨_,rfl⟩
 have z6:W6.heap.size=w5.heap.size+1:=by rw [← hW6];simp
 rw [hW6] at h6 x6
 have h7:=heap_alloc_new W6 (.cells #[.slice A1 256 c1,.slice A2 256 c2,.slice A3 256 c3,.slice A4 256 c4] 22)
 have x7:=Ext.alloc W6 (.cells #[.slice A1 256 c1,.slice A2 256 c2,.slice A3 256 c3,.slice A4 256 c4] 22)
 obtain ⟨W7,hW7⟩:∃ W7,W6.alloc (.cells #[.slice A1 256 c1,.slice A2 256 c2,.slice A3 256 c3,.slice A4 256 c4] 22)=W7:=⟨_,rfl⟩
 rw [hW7] at h7 x7
 have h6:=h6.later (by rw [z1024_length];omega) x7
 obtain ⟨O,hO⟩:∃ O,w5.heap.size=O:=⟨_,rfl⟩
 rw [z6,hO] at h7
 rw [hO] at h6
 have hb7:Below O w5 W7:=by rw [← hO];exact x6.trans x7
 have HQ7:=hid (show RW W7 O 0 (tS 0)∧W7.heap[O+1]? = some (.cells #[.slice A1 256 c1,.slice A2 256 c2,.slice A3 256 c3,.slice A4 256 c4] 22 (0,0))∧Below O w5 W7 from ⟨by rw [tS_zero];exact h6,h7,hb7⟩)
 have HTT:=hid (show ∀ i,i < 4→∃ A c,(#[Value.slice A1 256 c1,.slice A2 256 c2,.slice A3 256 c3,.slice A4 256 c4]:Array Value)[i]? = some (.slice A 256 c)∧Rd w5 O A 256 (tabT i) from fun i hi=>by
  rw [← hO]
  match i,hi with
  | 0,_=>exact ⟨A1,c1,rfl,HR1.out⟩
  | 1,_=>exact ⟨A2,c2,rfl,HR2.out⟩
  | 2,_=>exact ⟨A3,c3,rfl,HR3.out⟩
  | 3,_=>exact ⟨A4,c4,rfl,HR4.out⟩)
 have HW:=hid (And.intro hW6 (And.intro hW7 (And.intro hO (show W6.heap.size=O+1 by omega))))
 have HRW5:=hid (H1.out.later (by rw [z1024_length];omega) HX5.out)
 have HRO:=hid (show R0 < O by rw [← hO];exact HRW5.out.lt (by rw [z1024_length];omega))
 have HXT:=hid (Ext.trans X1x.out HX5.out)
 have HWO:=hid (show w.heap.size≤O by rw [← hO];exact HXT.out.size)
 clear h6 h7 hb7 x6 x7 z6 hW6 hW7 hO HR1 HR2 HR3 HR4 HX2 HX3 HX4 HX5 X1x HO HRW H1 HW1
 go_wp2_with fail
 rw [zc50,HW.out.1,HW.out.2.1,HW.out.2.2.1]
 clear HW
 go_loopw [30] (fun v wr=>∃ i:Nat,i≤4∧v=.int .i64 i∧RW wr O 0 (tS i)∧wr.heap[O+1]? = some (.cells #[.slice A1 256 c1,.slice A2 256 c2,.slice A3 256 c3,.slice A4 256 c4] 22 (0,0))∧Below O w5 wr) (fun v _=>4 - (intOf v).toNat)
 case atStart=>exact ⟨0,by omega,rfl,HQ7.out⟩
 case round =>
  clear HQ7
  obtain ⟨i,hi,rfl,hO,hL,hb⟩:=hrel
  by_cases hlt:i < 4
  ·obtain ⟨A,c,hA,hr⟩:=HTT.out i hlt
   have hr':=hr.below hb (Nat.le_refl _)
   have hcl:wr.cell? ⟨O+1,i,none⟩=some (.slice A 256 c):=by rw [cell_of_row _ _ _ _ _ _ hL];exact hA
   have hO2:=hO.store (i*256) (tabT i) (by rw [tS_length,tabT_length];omega)
   rw [tS_next i hlt,Nat.zero_add] at hO2
   have hL2:(wr.setCells O (i*256) (cellsOf (tabT i))).heap[O+1]? = some (.cells #[.slice A1 256 c1,.slice A2 256 c2,.slice A3 256 c3,.slice A4 256 c4] 22 (0,0)):=by
    rw [heap_setCells_ne O (cellsOf (tabT i)) (i*256) wr (O+1) (by omega)];exact hL
   have hb2:=below_setCells (B:=O) (b:=O) (a:=w5) (Nat.le_refl _) (cellsOf (tabT i)) (i*256) wr hb
   have HTH:=hid (show wr.there O (i*256) 256 from fun j hj=>by
    have:=hO.wr (i*256+j) (by rw [tS_length];omega)
    rwa [Nat.zero_add] at this)
   have hi4:(i:Int) < 4:=by omega
   have HM:=hid (show Nat.min 256 256=256 from rfl)
   have HTK:=hid (show (tabT i).take 256=tabT i from List.take_of_length_le (by rw [tabT_length];omega))
   have HR:=hid hr'
   obtain ⟨W8,hW8⟩:∃ W8,wr.setCells O (i*256) (cellsOf (tabT i))=W8:=⟨_,rfl⟩
   rw [hW8] at hO2 hL2 hb2
   have HQ:=hid (And.intro hO2 (And.intro hL2 hb2))
   have HW8:=hid hW8
   clear hO hL hb hr hr' hO2 hL2 hb2 hA hW8
   go_wp2_with (refine wpList_cpr rfl (.tmp 37) (.tmp 38) rfl O (i*256) 256 256 _ 256 c A (tabT i) rfl rfl HR.out 256 HM.out HTH.out ?_;rw [HTK.out,HW8.out];clear HTH HW8 HR HTK HM)
   go_roundw
   case rel=>exact ⟨i+1,by omega,by go_num,HQ.out⟩
   case measure=>simp [intOf];omega
  ·obtain rfl:i=4:=by omega
   rw [tS_full] at hO
   have hR:=HRW5.out.below hb HRO.out
   have hs:=hR.store0 tabB (by rw [tabB_length,z1024_length])
   have hx2:=below_setCells (B:=w.heap.size) (b:=R0) (a:=w) (by have:=HX0.out;omega) (cellsOf tabB) 0 wr (Below.trans HXT.out (hb.mono HWO.out))
   have HO:=hid hO.rd
   have HS:=hid hs.rd
   have HX2:=hid hx2
   have HSZ:=hid (size50' tabB_length)
   have HTH:=hid (show wr.there R0 0 tabB.length by rw [tabB_length];have:=hR.wr;rw [z1024_length] at this;exact this)
   clear hO hL hb hR hs hx2
   go_wp2_with (first
    | (refine wpList_ld rfl 130 (.tmp 7) rfl O 0 rfl tabB HO.out Tryz.underlying130 HSZ.out ?_)
    | (refine wpList_st rfl 130 (.tmp 0) (.tmp 41) rfl R0 0 tabB rfl rfl HTH.out HSZ.out ?_))
   refine ret_mid rfl rfl R0 tabB rfl HS.out Tryz.underlying130 HSZ.out ⟨rfl,HX2.out⟩
end Go.Proofs.YtbgkmicelmenfaaGreatDoor.A
namespace Go.Proofs.YtbgkmicelmenfaaGreatDoor.A
open Go.RowKit
set_option maxRecDepth 100000
def OwnV (e:TypeId) (w:World) (base:Nat) (v:Value) (vs:List Value):Prop:=w.ownsRow base e 1 v vs.length vs
theorem Tryz.info22:(Tryz.prog.info? 22).map (fun i=>(i.zero,i.size,i.bytes))=some (some (.slice none 0 0),1,24):=by kernel_rfl
theorem OwnV.kept {e:TypeId} {w w':World} {base:Nat} {v:Value} {vs:List Value} (h:OwnV e w base v vs) (hb:Ext w w'):OwnV e w' base v vs:=by
 refine ⟨h.1,?_⟩
 rcases h.2 with hn | ⟨g,cap,cur,rfl,hbg,hh,r⟩
 ·exact .inl hn
 ·exact .inr ⟨g,cap,cur,rfl,hbg,by rw [Below.block hb g (Array.getElem?_eq_some_iff.1 hh).1];exact hh,r⟩
theorem OwnV.celln {e:TypeId} {w:World} {base g n c:Nat} {vs:List Value} (h:OwnV e w base (.slice (some ⟨g,0,none⟩) n c) vs) (hn:vs.length=n) (j:Nat) (hj:j < n):w.cell? ⟨g,j,none⟩=vs[j]?:=by
 subst hn
 exact World.ownsRow.cellAt h j (by omega)
theorem wpL_appendV {P:Program} (w:World) {ops:Array Oper} {rest:List Oper} {o:Oper} {a:Act} {Q:Exit→Act→World→Prop} (hgd:o.guard=none) (s x:Operand) (t e:TypeId)
  (ho:o.op=.call { callee:=.builtin .append,args:=#[s,x],argTypes:=#[t,t] }) (hu:P.underlying t=some (.slice e))
  (hin:(P.info? e).map (fun i=>(i.zero,i.size,i.bytes))=some (some (.slice none 0 0),1,24))
  (base:Nat) (v:Value) (xs:List Value) (hs:a.eval s=v) (hown:OwnV e w base v xs)
  (g c:Nat) (u:Value) (hx:a.eval x=.slice (some ⟨g,0,none⟩) 1 c) (hc:w.cell? ⟨g,0,none⟩=some u) (h1:u.oneCell' = true) (hlen:xs.length≤1000) (hbase:base≤w.heap.size)
  (h:∀ v' w',OwnV e w' base v' (xs++[u])→w.grownBy w' v.ownBlock→wpList P ops Q rest (a.put o.dst v') w'):wpList P ops Q (o::rest) a w:=by
 obtain ⟨i0,hi0,hz0,hz1,hz2⟩:=info_parts hin
 refine wpList_append_own w hgd s x t ho base e i0 (.slice none 0 0) 1 24 hu hi0 hz0 hz1 hz2 rfl (by omega) v xs.length xs hs hown ⟨g,0,none⟩ 1 c [u] hx rfl ?_ (by intro y hy;simp at hy;subst hy;exact h1) (by unfold maxLen;omega) (by omega) hbase ?_
 ·intro j y hy
  match j with
  | 0=>simp at hy;subst hy;rw [add_at];exact hc
  | j+1=>simp at hy
 ·intro v' w' h2 h3 _
  exact h v' w' (by simpa [OwnV] using h2) h3
theorem OwnV.block_ne {e:TypeId} {w:World} {base:Nat} {v:Value} {vs:List Value} (h:OwnV e w base v vs) {b:Nat} {cur:Array Value} {e2:TypeId} {f:Nat×Nat} (hb:w.heap[b]? = some (.cells cur e2 f)) (hne:e2 ≠ e):some b ≠ v.ownBlock:=by
 rcases h.2 with ⟨rfl,_⟩ | ⟨g,cap,cur2,rfl,_,hh,_⟩
 ·simp [Value.ownBlock]
 ·simp only [Value.ownBlock,ne_eq,Option.some.injEq]
  rintro rfl
  rw [hh] at hb
  cases hb
  exact hne rfl
theorem OwnV.below {e:TypeId} {w w':World} {base:Nat} {v:Value} {vs:List Value} (hv:OwnV e w base v vs) (hbase:base≤w.heap.size) (hg:w.grownBy w' v.ownBlock):Below base w w' :=
 (Below.refl _ _).grown hg hbase fun k hk=>(World.ownsRow.lt hv k hk).1
def okLen (n:Nat):Prop:=n=16∨n=24∨n=32
theorem isKey_good (A:Option Addr) (n c:Nat) (w:World) (hn:okLen n):Calls Tryz.prog 62 #[.slice A n c] w fun e w'=>e=.returned (.bool true)∧w=w':=by
 rcases hn with rfl | rfl | rfl
 all_goals
  go_enter Tryz.func62,Tryz.ntmps62
  go_wp2
  go_ret
  exact ⟨rfl,rfl⟩
structure GK (w:World):Prop where
 odd:Odd w
 rws:Rws w
 sev:Sev w
 con:Con w
 tu:Tu w
theorem GK.later {w w':World} (h:GK w) (hx:Ext w w'):GK w':=⟨h.odd.later hx,h.rws.later hx,h.sev.later hx,h.con.later hx,h.tu.later hx⟩
end Go.Proofs.YtbgkmicelmenfaaGreatDoor.A
