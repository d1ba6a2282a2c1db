import Derived.Laws.BitsAllLaws
import Derived.Laws.Bits64
import Derived.Laws.ShiftsVarLaws
import Derived.Below
import Derived.IntWalk
import Derived.WalkKit
import Derived.ProofKit
import Derived.OpenShut
import Derived.Deep.QuietTactic
import Derived.BigQuiet
import Derived.Test.YtjjhcbmhdkobkaaDoorRows
import Derived.Lib.OthersKept
import Derived.Deep.CutBlock
import Derived.Deep.DeepCutAuto
set_option maxRecDepth 100000
set_option maxHeartbeats 8000000
namespace Go.Proofs.YtjjhcbmhdkobkaaDoor
open Go.RowKit
theorem xor_ones (a:Nat)(h:a<18446744073709551616):a ^^^ 18446744073709551615=18446744073709551615-a:=by
 have e:=congrArg BitVec.toNat (BitVec.xor_allOnes (x:=BitVec.ofNat 64 a));rw[BitVec.toNat_xor,BitVec.toNat_not,BitVec.toNat_allOnes,BitVec.toNat_ofNat,Nat.mod_eq_of_lt (by omega)] at e;omega
def zg (n:Int):Int:=if 0<=n then 2*n else -(2*n)-1
def zgb (u:Int):Int:=if u % 2=0 then u / 2 else -(u / 2)-1
theorem zg_bd (n:Int)(h1:-9223372036854775808<=n)(h2:n<=9223372036854775807):0<=zg n/\zg n<18446744073709551616:=by
 unfold zg;split<;>omega
theorem zgb_bd (u:Int)(h1:0<=u)(h2:u<18446744073709551616):-9223372036854775808<=zgb u/\zgb u<=9223372036854775807:=by
 unfold zgb;split<;>omega
theorem zgb_zg (n:Int):zgb (zg n)=n:=by
 unfold zg zgb;split<;>split<;>omega
theorem zg_zgb (u:Int)(h1:0<=u):zg (zgb u)=u:=by
 unfold zg zgb;split<;>split<;>omega
theorem zig_eq (n:Int)(h1:-9223372036854775808<=n)(h2:n<=9223372036854775807) :
  bits .xor .u64 (IntKind.u64.wrap (IntKind.u64.wrap n*2)) (IntKind.u64.wrap (n / 9223372036854775808))=zg n:=by
 simp only[IntKind.wrap_u64];rw[u64_xor _ _ (by omega) (by omega) (by omega) (by omega)];unfold zg;split
 ·have e:n / 9223372036854775808 % 18446744073709551616=0:=by omega
  rw[e];simp;omega
 ·have e:n / 9223372036854775808 % 18446744073709551616=18446744073709551615:=by omega
  rw[e,show (18446744073709551615:Int).toNat=18446744073709551615 from rfl,xor_ones _ (by omega)];omega
theorem wrap64_small (n:Int)(h1:-9223372036854775808<=n)(h2:n<=9223372036854775807):wrap64 n=n:=by
 unfold wrap64;omega
theorem xor_i64 (a b:Int):bits .xor .i64 a b=IntKind.i64.wrap ((BitVec.ofInt 64 a ^^^ BitVec.ofInt 64 b).toNat:Int):=rfl
theorem xor_i64_zero (a:Int)(h1:0<=a)(h2:a<9223372036854775808):bits .xor .i64 a 0=a:=by
 obtain⟨x,rfl⟩:=Int.eq_ofNat_of_zero_le h1;rw[xor_i64,BitVec.ofInt_natCast,show BitVec.ofInt 64 0=0#64 from rfl,BitVec.xor_zero,BitVec.toNat_ofNat,Nat.mod_eq_of_lt (by omega),IntKind.wrap_i64];omega
theorem xor_i64_ones (a:Int)(h1:0<=a)(h2:a<9223372036854775808):bits .xor .i64 a (-1)=-a-1:=by
 obtain⟨x,rfl⟩:=Int.eq_ofNat_of_zero_le h1;rw[xor_i64,BitVec.ofInt_natCast,show BitVec.ofInt 64 (-1)=BitVec.allOnes 64 from by decide,BitVec.xor_allOnes,BitVec.toNat_not,BitVec.toNat_ofNat,Nat.mod_eq_of_lt (by omega),IntKind.wrap_i64];omega
theorem zag_eq (u:Int)(h1:0<=u)(h2:u<18446744073709551616) :
  bits .xor .i64 (u / 2) (wrap64 (-wrap64 (bits .and .u64 u 1)))=zgb u:=by
 rw[u64_and _ _ h1 h2 (by omega) (by omega),show (1:Int).toNat=1 from rfl,nat_mask1];unfold zgb;split
 ·have e:u.toNat % 2=0:=by omega
  rw[e,wrap64_small ((0:Nat):Int) (by omega) (by omega),wrap64_small (-((0:Nat):Int)) (by omega) (by omega),show (-((0:Nat):Int))=0 from rfl];exact xor_i64_zero _ (by omega) (by omega)
 ·have e:u.toNat % 2=1:=by omega
  rw[e,wrap64_small ((1:Nat):Int) (by omega) (by omega),wrap64_small (-((1:Nat):Int)) (by omega) (by omega),show (-((1:Nat):Int))=-1 from rfl,xor_i64_ones _ (by omega) (by omega)]
def mxl (x:Nat):Nat:=x*11400714819323198485 % 18446744073709551616
def mxr (x:Nat):Nat:=x ^^^ x / 4294967296
def mx (h z:Int):Int:=((mxr (mxl (h.toNat ^^^ z.toNat)):Nat):Int)
theorem mxl_lt (x:Nat):mxl x<18446744073709551616:=Nat.mod_lt _ (by decide)
theorem mx_eq (h z:Int)(g1:0<=h)(g2:h<18446744073709551616)(h1:0<=z)(h2:z<18446744073709551616) :
  bits .xor .u64 (IntKind.u64.wrap (bits .xor .u64 h z*11400714819323198485)) (IntKind.u64.wrap (bits .xor .u64 h z*11400714819323198485) / 4294967296)=mx h z:=by
 have e:IntKind.u64.wrap (bits .xor .u64 h z*11400714819323198485)=((mxl (h.toNat ^^^ z.toNat):Nat):Int):=by
  rw[u64_xor _ _ g1 g2 h1 h2,IntKind.wrap_u64];unfold mxl;omega
 have hl:=mxl_lt (h.toNat ^^^ z.toNat);rw[e,u64_xor _ _ (by omega) (by omega) (by omega) (by omega)];unfold mx mxr;rw[Int.toNat_natCast,show (((mxl (h.toNat ^^^ z.toNat):Nat):Int) / 4294967296).toNat=mxl (h.toNat ^^^ z.toNat) / 4294967296 from by omega]
theorem mx_eq_ref (h z:Int)(g1:0<=h)(g2:h<18446744073709551616)(h1:0<=z)(h2:z<18446744073709551616) :
  bits .xor .u64 (IntKind.u64.wrap (bits .xor .u64 h z*11400714819323198485)) (IntKind.u64.wrap ((IntKind.u64.wrap (bits .xor .u64 h z*11400714819323198485)).tdiv 4294967296))=mx h z:=by
 rw[<-mx_eq h z g1 g2 h1 h2];have e:IntKind.u64.wrap ((IntKind.u64.wrap (bits .xor .u64 h z*11400714819323198485)).tdiv 4294967296)=IntKind.u64.wrap (bits .xor .u64 h z*11400714819323198485) / 4294967296:=by
  rw[IntKind.wrap_u64,IntKind.wrap_u64,Int.tdiv_eq_ediv_of_nonneg (by omega)];omega
 rw[e]
theorem mx_bd (h z:Int):0<=mx h z/\mx h z<18446744073709551616:=by
 have hl:=mxl_lt (h.toNat ^^^ z.toNat)
 have:=Nat.xor_lt_two_pow (n:=64) (x:=mxl (h.toNat ^^^ z.toNat)) (y:=mxl (h.toNat ^^^ z.toNat) / 4294967296) (by omega) (by omega)
 unfold mx mxr;omega
theorem part0_eq (u:Int)(h1:0<=u)(h2:u<18446744073709551616):wrap64 (bits .and .u64 (u / 72057594037927936) 255)=u / 72057594037927936:=by
 rw[u64_and _ _ (by omega) (by omega) (by omega) (by omega),show (255:Int).toNat=255 from rfl,nat_mask8,wrap64_small _ (by omega) (by omega)];omega
theorem and_mask28 (x:Nat):x &&& 268435455=x % 268435456:=Nat.and_two_pow_sub_one_eq_mod x 28
theorem part1_eq (u:Int)(h1:0<=u)(h2:u<18446744073709551616):wrap64 (bits .and .u64 (u / 268435456) 268435455)=u / 268435456 % 268435456:=by
 rw[u64_and _ _ (by omega) (by omega) (by omega) (by omega),show (268435455:Int).toNat=268435455 from rfl,and_mask28,wrap64_small _ (by omega) (by omega)];omega
theorem part2_eq (u:Int)(h1:0<=u)(h2:u<18446744073709551616):wrap64 (bits .and .u64 u 268435455)=u % 268435456:=by
 rw[u64_and _ _ (by omega) (by omega) (by omega) (by omega),show (268435455:Int).toNat=268435455 from rfl,and_mask28,wrap64_small _ (by omega) (by omega)];omega
def tk:List UInt8->Nat->Nat->Nat × Nat × Nat
 | [],_,_=>(0,0,10)
 | c::r,i,u =>
  if i=9/\1<c.toNat then (0,0,11)
  else if 128<=c.toNat then tk r (i+1) (u+c.toNat % 128*128 ^ i)
  else if c.toNat=0/\0<i then (0,0,11)
  else (u+c.toNat*128 ^ i,i+1,0)
def sev:Nat->Nat->List UInt8
 | 0,u=>[UInt8.ofNat u]
 | f+1,u=>if u<128 then [UInt8.ofNat u] else UInt8.ofNat (u % 128+128)::sev f (u / 128)
def sevs (u:Int):List UInt8:=sev 9 u.toNat
theorem drop_cons (s:ByteArray)(k:Nat)(h:k<s.size):s.data.toList.drop k=s[k]::s.data.toList.drop (k+1):=by
 have hl:k<s.data.toList.length:=by simpa using h
 rw[List.drop_eq_getElem_cons hl];rfl
theorem tkF (c:UInt8)(r:List UInt8)(k u:Nat)(h9:k=9)(h:1<c.toNat):tk (c::r) k u=(0,0,11):=by
 simp[tk,h9,h]
theorem tkM (c:UInt8)(r:List UInt8)(k u:Nat)(h9:k=9->c.toNat<=1)(h:128<=c.toNat):tk (c::r) k u=tk r (k+1) (u+c.toNat % 128*128 ^ k):=by
 have n9:¬(k=9/\1<c.toNat):=by omega
 rw[tk,if_neg n9,if_pos h]
theorem tkZ (c:UInt8)(r:List UInt8)(k u:Nat)(h:c.toNat=0)(hk:0<k):tk (c::r) k u=(0,0,11):=by
 have n9:¬(k=9/\1<c.toNat):=by omega
 have n1:¬128<=c.toNat:=by omega
 rw[tk,if_neg n9,if_neg n1,if_pos ⟨h,hk⟩]
theorem tkE (c:UInt8)(r:List UInt8)(k u:Nat)(h9:k=9->c.toNat<=1)(h:c.toNat<128)(hz:c.toNat=0->k=0):tk (c::r) k u=(u+c.toNat*128 ^ k,k+1,0):=by
 have n9:¬(k=9/\1<c.toNat):=by omega
 have n1:¬128<=c.toNat:=by omega
 have n2:¬(c.toNat=0/\0<k):=by omega
 rw[tk,if_neg n9,if_neg n1,if_neg n2]
theorem low7 (c:Nat)(hc:c<256):bits .and .u8 (c:Int) 127=((c % 128:Nat):Int):=by
 rw[u8_and _ _ (by omega) (by omega) (by omega) (by omega),show (127:Int).toNat=127 from rfl,nat_mask7,Int.toNat_natCast]
theorem pow7 (k:Nat):(128:Nat) ^ k=2 ^ (7*k):=by rw[Nat.pow_mul]
theorem digit_lt (k c:Nat)(hk:k<=9)(h9:k=9->c<=1):c % 128*128 ^ k<18446744073709551616:=by
 have:k=0\/k=1\/k=2\/k=3\/k=4\/k=5\/k=6\/k=7\/k=8\/k=9:=by omega
 rcases this with rfl|rfl|rfl|rfl|rfl|rfl|rfl|rfl|rfl|rfl<;>simp<;>omega
theorem acc_lt (k acc:Nat)(hk:k<=9)(ha:acc<128 ^ k):acc<9223372036854775808:=by
 have:(128:Nat) ^ k<=128 ^ 9:=Nat.pow_le_pow_right (by decide) hk
 have e:(128:Nat) ^ 9=9223372036854775808:=by decide
 omega
theorem digit_eq (k acc c:Nat)(hk:k<=9)(ha:acc<128 ^ k)(hc:c<256)(h9:k=9->c<=1) :
  bits .or .u64 (acc:Int) (IntKind.u64.wrap (IntKind.u64.wrap (bits .and .u8 (c:Int) 127)*2 ^ (7*k)))=((acc+c % 128*128 ^ k:Nat):Int):=by
 have hd:=digit_lt k c hk h9;have hl:=acc_lt k acc hk ha;have e1:IntKind.u64.wrap ((c % 128:Nat):Int)=((c % 128:Nat):Int):=by rw[IntKind.wrap_u64];omega
 have e2:(((c % 128:Nat):Int)*2 ^ (7*k))=((c % 128*128 ^ k:Nat):Int):=by
  rw[pow7];simp
 have e3:IntKind.u64.wrap ((c % 128*128 ^ k:Nat):Int)=((c % 128*128 ^ k:Nat):Int):=by rw[IntKind.wrap_u64];omega
 rw[low7 c hc,e1,e2,e3,u64_or _ _ (by omega) (by omega) (by omega) (by omega),Int.toNat_natCast,Int.toNat_natCast,Nat.or_comm,
  nat_join (7*k) _ _ (by rw[<-pow7];exact Nat.mul_mod_left _ _) (by rw[<-pow7];exact ha)]
 omega
theorem digit_eq9 (acc c:Nat)(ha:acc<128 ^ 9)(h9:c<=1) :
  bits .or .u64 (acc:Int) (IntKind.u64.wrap (IntKind.u64.wrap (bits .and .u8 (c:Int) 127)*9223372036854775808))=((acc+c % 128*128 ^ 9:Nat):Int):=by
 have h:=digit_eq 9 acc c (by omega) ha (by omega) (fun _=>h9);have e:((2:Int) ^ (7*9))=9223372036854775808:=by decide
 rw[e] at h;exact h
theorem digit_acc (k acc c:Nat)(ha:acc<128 ^ k):acc+c % 128*128 ^ k<128 ^ (k+1):=by
 rw[Nat.pow_succ];have h1:c % 128*128 ^ k<=127*128 ^ k:=Nat.mul_le_mul_right _ (by omega);omega
theorem byte_more (r:Nat):bits .or .u8 (IntKind.u8.wrap (r:Int)) 128=(((UInt8.ofNat (r % 128+128)).toNat:Nat):Int):=by
 have e:(UInt8.ofNat (r % 128+128)).toNat=r % 128+128:=by
  rw[UInt8.toNat_ofNat'];omega
 have e1:IntKind.u8.wrap (r:Int)=((r % 256:Nat):Int):=by rw[IntKind.wrap_u8];omega
 rw[e,e1,u8_or _ _ (by omega) (by omega) (by omega) (by omega),Int.toNat_natCast,show (128:Int).toNat=128 from rfl];have hx:r % 256 ||| 128=r % 256 % 128+128:=by
  have h:=nat_join 7 128 (r % 256 % 128) (by decide) (by omega);have hq:r % 256=r % 256 % 128\/r % 256=128+r % 256 % 128:=by omega
  rcases hq with hq|hq
  ·rw[hq,Nat.or_comm,show r % 256 % 128 % 128=r % 256 % 128 from by omega,h];omega
  ·have:(128 ||| r % 256 % 128) ||| 128=128 ||| r % 256 % 128:=by
    rw[Nat.or_comm,<-Nat.or_assoc,Nat.or_self]
   rw[hq,<-h,this,h];omega
 rw[hx];omega
theorem byte_more' (r:Nat):bits .or .u8 ((r:Int) % 256) 128=(((UInt8.ofNat (r % 128+128)).toNat:Nat):Int):=by
 rw[<-byte_more,IntKind.wrap_u8]
theorem byte_sum (r:Nat):(r:Int) % 128+128=(((UInt8.ofNat (r % 128+128)).toNat:Nat):Int):=by
 rw[UInt8.toNat_ofNat'];omega
theorem byte_last (r:Nat)(h:r<128):(r:Int)=(((UInt8.ofNat r).toNat:Nat):Int):=by
 rw[UInt8.toNat_ofNat'];omega
theorem sev_more (f r:Nat)(h:¬r<128):sev (f+1) r=UInt8.ofNat (r % 128+128)::sev f (r / 128):=by
 rw[sev,if_neg h]
theorem sev_last (f r:Nat)(h:r<128):sev f r=[UInt8.ofNat r]:=by
 cases f with
 | zero=>rfl
 | succ f=>rw[sev,if_pos h]
theorem digit_sum (k acc c:Nat)(hk:k<=9)(ha:acc<128 ^ k)(h9:k=9->c<=1):acc+c % 128*128 ^ k<18446744073709551616:=by
 have:k=0\/k=1\/k=2\/k=3\/k=4\/k=5\/k=6\/k=7\/k=8\/k=9:=by omega
 rcases this with rfl|rfl|rfl|rfl|rfl|rfl|rfl|rfl|rfl|rfl<;>simp at *<;>omega
theorem rdigit_eq (k acc unit c:Nat)(hk:k<=9)(hu:unit=128 ^ k)(ha:acc<128 ^ k)(h9:k=9->c<=1) :
  IntKind.u64.wrap ((acc:Int)+IntKind.u64.wrap ((c:Int) % 128*(unit:Int)))=((acc+c % 128*128 ^ k:Nat):Int):=by
 have hd:=digit_lt k c hk h9;have hl:=digit_sum k acc c hk ha h9;have e:((c:Int) % 128*(unit:Int))=((c % 128*128 ^ k:Nat):Int):=by
  rw[hu];simp
 have e1:IntKind.u64.wrap ((c % 128*128 ^ k:Nat):Int)=((c % 128*128 ^ k:Nat):Int):=by rw[IntKind.wrap_u64];omega
 rw[e,e1,IntKind.wrap_u64];omega
theorem rdigit_zero (k acc:Nat)(hk:k<=9)(ha:acc<128 ^ k):IntKind.u64.wrap ((acc:Int)+IntKind.u64.wrap 0)=((acc+0*128 ^ k:Nat):Int):=by
 have hl:=acc_lt k acc hk ha;rw[IntKind.wrap_u64,IntKind.wrap_u64,Nat.zero_mul];omega
theorem runit_eq (k unit:Nat)(hk:k<=8)(hu:unit=128 ^ k):IntKind.u64.wrap ((unit:Int)*128)=((128 ^ (k+1):Nat):Int):=by
 have h:(128:Nat) ^ (k+1)<=128 ^ 9:=Nat.pow_le_pow_right (by decide) (by omega);have e:(128:Nat) ^ 9=9223372036854775808:=by decide
 have e2:(128:Nat) ^ (k+1)=128 ^ k*128:=Nat.pow_succ ..;rw[IntKind.wrap_u64,hu,e2];omega
theorem put_step (r f:Nat)(h:r<2*128 ^ f)(hr:¬r<128):∃g,f=g+1/\r / 128<2*128 ^ g:=by
 cases f with
 | zero=>simp at h;omega
 | succ g=>exact⟨g,rfl,by rw[Nat.pow_succ] at h;omega⟩
theorem sev_len (f:Nat):∀ r,1<=(sev f r).length/\(sev f r).length<=f+1:=by
 induction f with
 | zero=>intro r;simp[sev]
 | succ f ih =>
  intro r
  have:=ih (r / 128)
  rw[sev];split
  ·simp
  ·simp;omega
theorem sevs_len (u:Int):1<=(sevs u).length/\(sevs u).length<=10:=sev_len 9 _
theorem tk_sev (b:List UInt8)(f:Nat):∀ (r i acc:Nat),i+f=9->r<2*128 ^ f->(r≠0\/i=0) ->
  tk (sev f r++b) i acc=(acc+r*128 ^ i,i+(sev f r).length,0):=by
 induction f with
 | zero =>
  intro r i acc hi hr hz;have hr2:r<2:=by simpa using hr
  have e:(UInt8.ofNat r).toNat=r:=by rw[UInt8.toNat_ofNat'];omega
  rw[sev,List.singleton_append,tkE _ _ _ _ (by omega) (by omega) (by omega),e];simp
 | succ f ih =>
  intro r i acc hi hr hz;by_cases h:r<128
  ·have e:(UInt8.ofNat r).toNat=r:=by rw[UInt8.toNat_ofNat'];omega
   rw[sev_last _ _ h,List.singleton_append,tkE _ _ _ _ (by omega) (by omega) (by omega),e];simp
  ·have e:(UInt8.ofNat (r % 128+128)).toNat=r % 128+128:=by rw[UInt8.toNat_ofNat'];omega
   have hp:2*128 ^ (f+1)=128*(2*128 ^ f):=by rw[Nat.pow_succ];omega
   rw[sev_more _ _ h,List.cons_append,tkM _ _ _ _ (by omega) (by omega),e,ih (r / 128) (i+1) _ (by omega) (by omega) (by omega)];have e1:(r % 128+128) % 128=r % 128:=by omega
   have e2:r % 128*128 ^ i+r / 128*128 ^ (i+1)=r*128 ^ i:=by
    have hr':r=r % 128+r / 128*128:=by omega
    have:r*128 ^ i=(r % 128+r / 128*128)*128 ^ i:=by rw[<-hr']
    rw[this,Nat.add_mul,Nat.pow_succ,Nat.mul_assoc (r / 128) 128,Nat.mul_comm 128 (128 ^ i)]
   rw[e1,Nat.add_assoc,e2];simp;omega
theorem tk_sevs (u:Int)(b:List UInt8)(h1:0<=u)(h2:u<18446744073709551616):tk (sevs u++b) 0 0=(u.toNat,(sevs u).length,0):=by
 have h:=tk_sev b 9 u.toNat 0 0 (by omega) (by omega) (by omega);simpa [sevs] using h
theorem tk_err (l:List UInt8):∀ (i acc:Nat),(tk l i acc).2.2=0\/tk l i acc=(0,0,10)\/tk l i acc=(0,0,11):=by
 induction l with
 | nil=>intro i acc;right;left;rfl
 | cons c t ih =>
  intro i acc;rw[tk];split
  ·right;right;rfl
  ·split
   ·exact ih _ _
   ·split
    ·right;right;rfl
    ·left;rfl
theorem ofNat_more (c:UInt8)(h:128<=c.toNat)(r:Nat)(hr:r % 128=c.toNat % 128):UInt8.ofNat (r % 128+128)=c:=by
 have hc:c.toNat<256:=UInt8.toNat_lt c;apply UInt8.toNat_inj.1;rw[UInt8.toNat_ofNat'];omega
theorem ofNat_self (c:UInt8):UInt8.ofNat c.toNat=c:=by
 apply UInt8.toNat_inj.1;rw[UInt8.toNat_ofNat'];have hc:c.toNat<256:=UInt8.toNat_lt c;omega
theorem tk_back (l:List UInt8):∀ (i acc n k:Nat),i<=9->tk l i acc=(n,k,0) ->
  ∃r j,k=i+j/\1<=j/\j<=l.length/\i+j<=10/\n=acc+r*128 ^ i/\sev (9-i) r=l.take j/\r<2*128 ^ (9-i)/\(0<i->r≠0)/\tk (l.take (j-1)) i acc=(0,0,10):=by
 induction l with
 | nil=>intro i acc n k _ h;simp[tk] at h
 | cons c t ih =>
  intro i acc n k hi h;have hc:c.toNat<256:=UInt8.toNat_lt c;by_cases hF:i=9/\1<c.toNat
  ·rw[tkF _ _ _ _ hF.1 hF.2] at h;simp at h
  ·by_cases hM:128<=c.toNat
   ·have hi8:i<=8:=by omega
    rw[tkM _ _ _ _ (by omega) hM] at h;obtain⟨r',j',hk,hj1,hj2,hj3,hn,hs,hr,hz,hshort⟩:=ih (i+1) _ n k (by omega) h;have hz':=hz (by omega);have hm:(c.toNat % 128+r'*128) % 128=c.toNat % 128:=by omega
    have hd:(c.toNat % 128+r'*128) / 128=r':=by omega
    have h9:9-i=(9-(i+1))+1:=by omega
    refine⟨c.toNat % 128+r'*128,j'+1,by omega,by omega,by simp;omega,by omega,?_,?_,?_,by omega,?_⟩
    ·rw[hn,Nat.add_mul,Nat.pow_succ,Nat.mul_assoc r' 128,Nat.mul_comm 128 (128 ^ i)];omega
    ·rw[h9,sev_more _ _ (by omega),hd,hs,ofNat_more c hM _ hm];rfl
    ·rw[h9,Nat.pow_succ];omega
    ·have e:(c::t).take (j'+1-1)=c::t.take (j' - 1):=by
      rw[show j'+1-1=(j' - 1)+1 by omega,List.take_succ_cons]
     rw[e,tkM _ _ _ _ (by omega) hM];exact hshort
   ·by_cases hZ:c.toNat=0/\0<i
    ·rw[tkZ _ _ _ _ hZ.1 hZ.2] at h;simp at h
    ·rw[tkE _ _ _ _ (by omega) (by omega) (by omega)] at h;simp only[Prod.mk.injEq,and_true] at h;obtain⟨rfl,rfl⟩:=h;refine⟨c.toNat,1,rfl,by omega,by simp,by omega,rfl,?_,?_,by omega,by simp[tk]⟩
     ·rw[sev_last _ _ (by omega),ofNat_self];rfl
     ·by_cases h9:i=9
      ·subst h9;simp;omega
      ·have hp:(128:Nat) ^ 1<=128 ^ (9-i):=Nat.pow_le_pow_right (by decide) (by omega);omega
theorem tk_back0 (l:List UInt8)(n k:Nat)(h:tk l 0 0=(n,k,0)) :
  1<=k/\k<=10/\k<=l.length/\n<18446744073709551616/\sevs (n:Int)=l.take k/\tk (l.take (k-1)) 0 0=(0,0,10):=by
 obtain⟨r,j,hk,hj1,hj2,hj3,hn,hs,hr,_,hshort⟩:=tk_back l 0 0 n k (by omega) h;have hn':n=r:=by simpa using hn
 have hk':k=j:=by omega
 subst hn' hk';refine⟨hj1,by omega,hj2,by simpa using hr,?_,hshort⟩;unfold sevs;rw[Int.toNat_natCast];exact hs
open Go.ChangeShapes Go.WideShapes Go.ChangeAt Go.RowKit
set_option linter.unusedVariables false
structure Step (I:Nat->Prop)(w:World)(o:Nat->Nat)(w':World)(o':Nat->Nat):Prop where
 os:w'.os=w.os
 tape:w'.tape=w.tape
 output:w'.output=w.output
 size:w.heap.size<=w'.heap.size
 lab:∀ k,k<w.heap.size->o' k=o k
 block:∀ k,k<w.heap.size->¬I (o k)->w'.heap[k]?=w.heap[k]?
theorem Step.refl (I:Nat->Prop)(w:World)(o:Nat->Nat):Step I w o w o:=⟨rfl,rfl,rfl,Nat.le_refl _,fun _ _=>rfl,fun _ _ _=>rfl⟩
theorem Step.trans {I:Nat->Prop}{a b c:World}{o o' o'':Nat->Nat}(h:Step I a o b o')(k:Step I b o' c o''):Step I a o c o'' :=
 ⟨k.os.trans h.os,k.tape.trans h.tape,k.output.trans h.output,Nat.le_trans h.size k.size,fun i hi=>(k.lab i (Nat.lt_of_lt_of_le hi h.size)).trans (h.lab i hi),
  fun i hi hn=>(k.block i (Nat.lt_of_lt_of_le hi h.size) (by rw[h.lab i hi];exact hn)).trans (h.block i hi hn)⟩
theorem Step.mono {I J:Nat->Prop}{a b:World}{o o':Nat->Nat}(h:Step I a o b o')(hij:∀ i,I i->J i):Step J a o b o' :=
 ⟨h.os,h.tape,h.output,h.size,h.lab,fun k hk hn=>h.block k hk (fun x=>hn (hij _ x))⟩
theorem Step.drew {I:Nat->Prop}{a w:World}{o o':Nat->Nat}(h:Step I a o w o'):Step I a o w.drew o' :=
 ⟨h.os,h.tape,h.output,h.size,h.lab,h.block⟩
theorem Step.setCell {I:Nat->Prop}{a w:World}{o o':Nat->Nat}(h:Step I a o w o')(p:Addr)(u:Value)(hp:I (o' p.block)):Step I a o (w.setCell p u) o' :=
 h.trans ⟨rfl,rfl,rfl,by simp,fun _ _=>rfl,fun k hk hn=>heap_setCell_other w p k u (fun e=>hn (by rw[e];exact hp))⟩
def newLab (w:World)(o:Nat->Nat)(i:Nat):Nat->Nat:=fun k=>if k<w.heap.size then o k else i
theorem newLab_old {w:World}{o:Nat->Nat}{i k:Nat}(h:k<w.heap.size):newLab w o i k=o k:=by simp[newLab,h]
theorem newLab_new {w:World}{o:Nat->Nat}{i k:Nat}(h:w.heap.size<=k):newLab w o i k=i:=by simp[newLab,Nat.not_lt.2 h]
def Row (w:World)(o:Nat->Nat)(i:Nat)(e:TypeId)(size:Nat)(v:Value)(n:Nat)(xs:List Value):Prop :=
 w.ownsRow 0 e size v n xs/\∀ k,v.ownBlock=some k->o k=i
def Blk (w:World)(o:Nat->Nat)(i:Nat)(b:Nat)(ob:Obj):Prop:=w.heap[b]?=some ob/\o b=i
theorem Blk.lt {w:World}{o:Nat->Nat}{i b:Nat}{ob:Obj}(h:Blk w o i b ob):b<w.heap.size:=lt_of_block h.1
theorem Blk.step {I:Nat->Prop}{w w':World}{o o':Nat->Nat}{i b:Nat}{ob:Obj}(h:Blk w o i b ob)(s:Step I w o w' o')(hi:¬I i):Blk w' o' i b ob :=
 ⟨(s.block b h.lt (by rw[h.2];exact hi)).trans h.1,(s.lab b h.lt).trans h.2⟩
theorem Row.lt {w:World}{o:Nat->Nat}{i:Nat}{e:TypeId}{size:Nat}{v:Value}{n:Nat}{xs:List Value}(h:Row w o i e size v n xs){k:Nat}(hk:v.ownBlock=some k):k<w.heap.size:=(h.1.lt k hk).2
theorem Row.step {I:Nat->Prop}{w w':World}{o o':Nat->Nat}{i:Nat}{e:TypeId}{size:Nat}{v:Value}{n:Nat}{xs:List Value}(h:Row w o i e size v n xs)(s:Step I w o w' o')(hi:¬I i):Row w' o' i e size v n xs:=by
 refine⟨⟨h.1.1,?_⟩,fun k hk=>(s.lab k (h.lt hk)).trans (h.2 k hk)⟩;rcases h.1.2 with hn|⟨g,cap,cur,rfl,hb,hgg,rest⟩
 ·exact .inl hn
 ·refine .inr ⟨g,cap,cur,rfl,hb,?_,rest⟩;rw[s.block g (lt_of_block hgg) (by rw[h.2 g rfl];exact hi)];exact hgg
theorem Row.nil (w:World)(o:Nat->Nat)(i:Nat)(e:TypeId)(size:Nat):Row w o i e size (.slice none 0 0) 0 []:=⟨World.ownsRow_nil _ _ _ _,fun k hk=>by simp[Value.ownBlock] at hk⟩
theorem Row.len {w:World}{o:Nat->Nat}{i:Nat}{e:TypeId}{size:Nat}{v:Value}{n:Nat}{xs:List Value}(h:Row w o i e size v n xs):xs.length=n*size:=h.1.1
theorem Row.form {w:World}{o:Nat->Nat}{i:Nat}{e:TypeId}{size:Nat}{v:Value}{n:Nat}{xs:List Value}(h:Row w o i e size v n xs):∃ao cap,v=.slice ao n cap:=by
 rcases h.1.2 with ⟨rfl,rfl⟩|⟨g,cap,cur,rfl,_⟩
 ·exact⟨_,_,rfl⟩
 ·exact⟨_,_,rfl⟩
theorem Row.pos {w:World}{o:Nat->Nat}{i:Nat}{e:TypeId}{size:Nat}{v:Value}{n:Nat}{xs:List Value}(h:Row w o i e size v n xs)(hn:0<n) :
  ∃g cap,v=.slice (some ⟨g,0,none⟩) n cap/\o g=i/\n<=cap/\cap<=maxLen/\g<w.heap.size/\(∀ j,j<n*size->w.cell? ⟨g,j,none⟩=xs[j]?)/\(∀ j,w.frozen? ⟨g,j,none⟩=false):=by
 rcases h.1.2 with ⟨rfl,rfl⟩|⟨g,cap,cur,rfl,_,hg,hc,hm,_⟩
 ·omega
 ·exact⟨g,cap,rfl,h.2 g rfl,hc,hm,lt_of_block hg,fun j hj=>h.1.cellAt j hj,fun j=>h.1.frozenAt j⟩
theorem Row.store {w:World}{o:Nat->Nat}{i:Nat}{e:TypeId}{size:Nat}{g n cap:Nat}{xs:List Value}(h:Row w o i e size (.slice (some ⟨g,0,none⟩) n cap) n xs)(j:Nat)(u:Value) :
  Row (w.setCell ⟨g,j,none⟩ u) o i e size (.slice (some ⟨g,0,none⟩) n cap) n (xs.set j u):=⟨(h.1.stored j u).1,h.2⟩
theorem run_append_where {P:Program}(w:World)(t ty e:TypeId)(i:TypeInfo)(z:Value)(size bytes:Nat)(ht:P.underlying t=some (.slice e))(hi:P.info? e=some i)(hz:i.zero=some z)
  (hsize:i.size=size) (hby:i.bytes=bytes) (hzs:z.cells.size=size) (hsz:0<size)
  (v:Value) (n:Nat) (xs:List Value) (hown:w.ownsRow 0 e size v n xs)
  (a:Addr) (m c:Nat) (news:List Value) (hl:news.length=m*size) (hnews:∀ j u,news[j]?=some u->w.cell? (a.add j)=some u) (h1:∀ u ∈ news,u.oneCell'=true)
  (h63:n+m<=maxLen) (hbytes:(n+m)*bytes<=140737488355328) (hm:0<m) :
  ∃v' w',(Builtin.append_ #[t,t] ty #[v,.slice (some a) m c]).run P w=.ok v' w'/\w'.ownsRow 0 e size v' (n+m) (xs++news)/\w.grownBy w' v.ownBlock /\
   (v'.ownBlock=v.ownBlock\/∃k,v'.ownBlock=some k/\w.heap.size<=k):=by
 obtain⟨v',w',hr,ho,hg,_⟩:=run_append_own (P:=P) w 0 t ty e i z size bytes ht hi hz hsize hby hzs hsz v n xs hown a m c news hl hnews h1 h63 hbytes (Nat.zero_le _);refine⟨v',w',hr,ho,hg,?_⟩;subst hsize;subst hby;have h63':n+m<=9223372036854775807:=by simp only[maxLen] at h63;omega
 rcases hown.2 with ⟨rfl,rfl⟩|⟨g,cap,cur,rfl,hbg,hgb,hnc,hcm,hcs,htake⟩
 ·have hr':=run_append_nil (P:=P) w t ty e i z ht hi hz a m c news hl hnews hm (by omega) (by have hb:=hbytes;simp only[Nat.zero_add] at hb;omega);rw[hr'] at hr;injection hr with e1 e2
  subst e1;exact .inr ⟨_,rfl,Nat.le_refl _⟩
 ·by_cases hroom:n+m<=cap
  ·have hfit:n*i.size+news.length<=cur.size:=by rw[hl,hcs,<-Nat.add_mul];exact Nat.mul_le_mul_right _ hroom
   have hr':=run_append_room (P:=P) w t ty e i ht hi g n cap cur hgb a m c news hl hnews h1 hroom hfit;rw[hr'] at hr;injection hr with e1 e2
   subst e1;exact .inl rfl
  ·have holds:∀ j u,xs[j]?=some u->w.cell? ((⟨g,0,none⟩:Addr).add j)=some u:=hown.cells (g:=g) rfl;have hr':=run_append_grow (P:=P) w t ty e i z ht hi hz ⟨g,0,none⟩ n cap xs hown.1 holds a m c news hl hnews (by omega) (by omega) (growslice_fits (by omega) hbytes);rw[hr'] at hr;injection hr with e1 e2
   subst e1;exact .inr ⟨_,rfl,Nat.le_refl _⟩
theorem Step.appended {I:Nat->Prop}{w w':World}{o:Nat->Nat}{i:Nat}{row:Option Nat}(hg:w.grownBy w' row)(hi:I i)(hr:∀ k,row=some k->o k=i):Step I w o w' (newLab w o i) :=
 ⟨hg.os,hg.tape,hg.output,hg.size,fun k hk=>newLab_old hk,fun k hk hn=>hg.block k hk (fun e=>hn (by rw[hr k e.symm];exact hi))⟩
theorem wpList_append_lab {P:Program}{w:World}{ops:Array Oper}{rest:List Oper}{op:Oper}{a:Act}{Q:Exit->Act->World->Prop}(hgd:op.guard=none)(s x:Operand)(t:TypeId)
  (ho:op.op=.call { callee:=.builtin .append,args:=#[s,x],argTypes:=#[t,t] })
  (e:TypeId) (i:TypeInfo) (z:Value) (size bytes:Nat) (ht:P.underlying t=some (.slice e)) (hi:P.info? e=some i) (hz:i.zero=some z)
  (hsize:i.size=size) (hby:i.bytes=bytes) (hzs:z.cells.size=size) (hsz:0<size)
  (o:Nat->Nat) (lb:Nat) (v:Value) (n:Nat) (xs:List Value) (hs:a.eval s=v) (hrow:Row w o lb e size v n xs)
  (ad:Addr) (m c:Nat) (news:List Value) (hx:a.eval x=.slice (some ad) m c) (hl:news.length=m*size) (hnews:∀ j u,news[j]?=some u->w.cell? (ad.add j)=some u) (h1:∀ u ∈ news,u.oneCell'=true)
  (hm:0<m) (h63:n+m<=maxLen) (hbytes:(n+m)*bytes<=140737488355328)
  (h:∀ g cap w' o',Row w' o' lb e size (.slice (some ⟨g,0,none⟩) (n+m) cap) (n+m) (xs++news)->Step (fun k=>k=lb) w o w' o'->wpList P ops Q rest (a.put op.dst (.slice (some ⟨g,0,none⟩) (n+m) cap)) w'):wpList P ops Q (op::rest) a w:=by
 refine wpList_plain hgd fun _ hK=>?_;obtain⟨v',w',hr,h2,h3,h4⟩:=run_append_where (P:=P) w t op.type e i z size bytes ht hi hz hsize hby hzs hsz v n xs hrow.1 ad m c news hl hnews h1 h63 hbytes hm;unfold Oper.wp execOp;simp only[ho,resolve,invoke,builtin,Sem.run_bind,Sem.run_pure,Result.andThen_ok,List.map_toArray,List.map_cons,List.map_nil,hs,hx,hr];have hst:Step (fun k=>k=lb) w o w' (newLab w o lb):=Step.appended h3 rfl hrow.2;have hrow':Row w' (newLab w o lb) lb e size v' (n+m) (xs++news):=by
  refine⟨h2,fun k hk=>?_⟩;rcases h4 with h4|⟨k',h4,hk'⟩
  ·rw[h4] at hk;rw[newLab_old (hrow.lt hk)];exact hrow.2 k hk
  ·rw[h4] at hk;injection hk with hk
   subst hk;exact newLab_new hk'
 obtain⟨g,cap,rfl,_⟩:=hrow'.pos (by omega);exact hK _ _ (h g cap w' _ hrow' hst)
theorem Step.below {I:Nat->Prop}{w w':World}{o o':Nat->Nat}(s:Step I w o w' o')(h0:∀ k,k<w.heap.size->¬I (o k)):Below w.heap.size w w' :=
 ⟨s.os,s.tape,s.output,s.size,fun k hk=>s.block k hk (h0 k hk)⟩
theorem step_append_lab {P:Program}{w:World}{ops:Array Oper}{op:Oper}{a:Act}{K:Act->World->Prop}{Q:Exit->Act->World->Prop}{E:Prop}(hgd:op.guard=none)(s x:Operand)(t:TypeId)
  (ho:op.op=.call { callee:=.builtin .append,args:=#[s,x],argTypes:=#[t,t] })
  (e:TypeId) (i:TypeInfo) (z:Value) (size bytes:Nat) (ht:P.underlying t=some (.slice e)) (hi:P.info? e=some i) (hz:i.zero=some z)
  (hsize:i.size=size) (hby:i.bytes=bytes) (hzs:z.cells.size=size) (hsz:0<size)
  (o:Nat->Nat) (lb:Nat) (v:Value) (n:Nat) (xs:List Value) (hs:a.eval s=v) (hrow:Row w o lb e size v n xs)
  (ad:Addr) (m c:Nat) (news:List Value) (hx:a.eval x=.slice (some ad) m c) (hl:news.length=m*size) (hnews:∀ j u,news[j]?=some u->w.cell? (ad.add j)=some u) (h1:∀ u ∈ news,u.oneCell'=true)
  (hm:0<m) (h63:n+m<=maxLen) (hbytes:(n+m)*bytes<=140737488355328)
  (h:∀ g cap w' o',Row w' o' lb e size (.slice (some ⟨g,0,none⟩) (n+m) cap) (n+m) (xs++news)->Step (fun k=>k=lb) w o w' o'->K (a.put op.dst (.slice (some ⟨g,0,none⟩) (n+m) cap)) w') :
  if Region.wanted op (yielded ops a.tmps)=true then Oper.wp P op a w K Q else E:=by
 have hw:Region.wanted op (yielded ops a.tmps)=true:=by simp[Region.wanted,hgd]
 rw[if_pos hw];obtain⟨v',w',hr,h2,h3,h4⟩:=run_append_where (P:=P) w t op.type e i z size bytes ht hi hz hsize hby hzs hsz v n xs hrow.1 ad m c news hl hnews h1 h63 hbytes hm;unfold Oper.wp execOp;simp only[ho,resolve,invoke,builtin,Sem.run_bind,Sem.run_pure,Result.andThen_ok,List.map_toArray,List.map_cons,List.map_nil,hs,hx,hr];have hst:Step (fun k=>k=lb) w o w' (newLab w o lb):=Step.appended h3 rfl hrow.2;have hrow':Row w' (newLab w o lb) lb e size v' (n+m) (xs++news):=by
  refine⟨h2,fun k hk=>?_⟩;rcases h4 with h4|⟨k',h4,hk'⟩
  ·rw[h4] at hk;rw[newLab_old (hrow.lt hk)];exact hrow.2 k hk
  ·rw[h4] at hk;injection hk with hk
   subst hk;exact newLab_new hk'
 obtain⟨g,cap,rfl,_⟩:=hrow'.pos (by omega);exact h g cap w' _ hrow' hst
theorem new_one (w:World)(x:Value)(t:TypeId):∀ j u,[x][j]?=some u->(w.alloc (.cells #[x] t)).cell? ((⟨w.heap.size,0,none⟩:Addr).add j)=some u:=by
 intro j u hj
 match j,hj with
 | 0,hj=>simp at hj;subst hj;simp[Addr.add]
theorem ret_int {k:IntKind}{a b:Int}(h:a=b):Ending.returned (.int k a)=.returned (.int k b):=by rw[h]
def sml (r:Nat):Bool:=decide (97<=r)&&decide (r<=122)
def dig (r:Nat):Bool:=decide (48<=r)&&decide (r<=57)
def wordsL:List (List UInt8) :=
 [[97,108,108],[97,110,100],[97,114,111,117,110,100],[98,108,111,99,107],[98,111,116,116,108,101,110,101,99,107],[99,111,110,110,101,99,116,101,100],[99,111,117,110,116],[100,101,103,114,101,101],[101,108,115,101],
  [102,97,108,115,101],[105,102],[105,110],[108,101,97,115,116],[109,97,120],[109,105,110],[109,111,115,116],[110,111,116],[111,114],
  [114,101,112],[115,105,122,101],[115,111,109,101],[115,117,109],[116,104,101,110],[116,111,116,97,108],[116,114,117,101],[118,97,108,117,101],[118,101,114,116,105,99,101,115]]
def wordB (t:List UInt8):Bool:=wordsL.contains t
def inn (c:UInt8):Bool:=sml c.toNat||dig c.toNat||c.toNat==95
def nameB (t:List UInt8):Bool :=
 match t with
 | []=>false
 | c::r=>decide (r.length<12)&&sml c.toNat&&r.all inn&&!wordB t
theorem sml_c (r:Nat)(w:World)(hr:r<=2147483647) :
  Calls Tryd.prog 68 #[.int .i32 (r:Nat)] w fun e w'=>e=.returned (.bool (sml r))/\w'=w:=by
 by_cases h1:97<=r
 ·have g1:(97:Int)<=(r:Int):=by omega
  by_cases h2:r<=122
  ·have g2:(r:Int)<=122:=by omega
   have e0:sml r=true:=by simp[sml,h1,h2]
   rw[e0];clear e0;go_enter Tryd.func68,Tryd.ntmps68;go_wp2;go_ret;exact⟨rfl,rfl⟩
  ·have g2:¬(r:Int)<=122:=by omega
   have g3:decide ((r:Int)<=122)=false:=decide_eq_false g2;have e0:sml r=false:=by simp[sml];omega
   rw[e0];clear e0;go_enter Tryd.func68,Tryd.ntmps68;go_wp2;go_ret;exact⟨rfl,rfl⟩
 ·have g1:¬(97:Int)<=(r:Int):=by omega
  have e0:sml r=false:=by simp[sml];omega
  rw[e0];clear e0;go_enter Tryd.func68,Tryd.ntmps68;go_wp2;go_ret;exact⟨rfl,rfl⟩
theorem dig_c (r:Nat)(w:World)(hr:r<=2147483647) :
  Calls Tryd.prog 69 #[.int .i32 (r:Nat)] w fun e w'=>e=.returned (.bool (dig r))/\w'=w:=by
 by_cases h1:48<=r
 ·have g1:(48:Int)<=(r:Int):=by omega
  by_cases h2:r<=57
  ·have g2:(r:Int)<=57:=by omega
   have e0:dig r=true:=by simp[dig,h1,h2]
   rw[e0];clear e0;go_enter Tryd.func69,Tryd.ntmps69;go_wp2;go_ret;exact⟨rfl,rfl⟩
  ·have g2:¬(r:Int)<=57:=by omega
   have g3:decide ((r:Int)<=57)=false:=decide_eq_false g2;have e0:dig r=false:=by simp[dig];omega
   rw[e0];clear e0;go_enter Tryd.func69,Tryd.ntmps69;go_wp2;go_ret;exact⟨rfl,rfl⟩
 ·have g1:¬(48:Int)<=(r:Int):=by omega
  have e0:dig r=false:=by simp[dig];omega
  rw[e0];clear e0;go_enter Tryd.func69,Tryd.ntmps69;go_wp2;go_ret;exact⟨rfl,rfl⟩
theorem str_ne {s t:ByteArray}(h:s≠t):(s.toList==t.toList)=false:=by
 rw[beq_eq_false_iff_ne,ByteArray.toList_eq,ByteArray.toList_eq];exact fun e=>h (ByteArray.ext (Array.toList_inj.1 e))
theorem str_full {s:ByteArray}(h:¬s.size=0):s.toList.isEmpty=false:=by
 rw[ByteArray.toList_eq,List.isEmpty_eq_false_iff];intro e;have h2:s.data.size=0:=by rw[<-Array.length_toList,e];rfl
 exact h h2
theorem bytes_eq {s t:ByteArray}:s.data.toList=t.data.toList ↔ s=t :=
 ⟨fun e=>ByteArray.ext (Array.toList_inj.1 e),fun e=>by rw[e]⟩
theorem b0 (w:World):Below w.heap.size w w:=Below.refl _ _
theorem b1 (w:World)(o:Obj):Below w.heap.size w (w.alloc o):=(Below.refl _ w).alloc (Nat.le_refl _) _
structure Cd where
 ws:List Int
 cs:List Int
 ns:List ByteArray
 ks:List Int
abbrev opW (u:Int):Int:=u / 72057594037927936
abbrev aW (u:Int):Int:=u / 268435456 % 268435456
abbrev bW (u:Int):Int:=u % 268435456
abbrev within (a:Int)(n:Nat):Bool:=decide (0<=a)&&decide (a<(n:Int))
def wrdD (c:Cd)(o a b:Int):Bool :=
 if o=1 then within a c.cs.length&&(decide (b=1)||(decide (b=2)&&within (c.cs.getD a.toNat 0) 2))
 else if o=2 then within a c.cs.length&&decide (0<=c.cs.getD a.toNat 0)&&decide (b=0)
 else if o=3 then decide (a<=3)&&decide (b=0)
 else if o=11 then decide (a=0)&&(decide (1<=b)&&decide (b<=3))
 else if o=12 then decide (a=0)&&decide (b<=1)
 else if o=13\/o=14\/o=15\/o=24 then decide (b=0)
 else if o=16 then decide (1<=a)&&decide (a<=10)&&decide (b=0)
 else if o=17 then within a c.ks.length
 else if o=18\/o=19 then within a c.ks.length&&decide (b=0)
 else if o=21 then within a c.ns.length&&decide (b=0)
 else if o=23 then decide (a<=1024)&&decide (b=0)
 else if o=26 then decide (a<=1)&&decide (b=0)
 else decide (o<28)&&decide (a=0)&&decide (b=0)
def spn (c:Cd)(t:Nat):Int × Int :=
 match t with
 | 1=>(0,268435455)
 | 2=>(0,1)
 | 3=>(0,3)
 | 4=>(1,10)
 | 5=>(0,1024)
 | 6=>(1,2)
 | 7=>(1,3)
 | 8=>(0,(c.cs.length:Int)-1)
 | 9=>(0,(c.ns.length:Int)-1)
 | 10=>(0,(c.ks.length:Int)-1)
 | _=>(0,0)
def mayB (c:Cd)(t:Nat)(n:Int):Bool:=decide ((spn c t).1<=n)&&decide (n<=(spn c t).2)
def rulA:List Nat:=[0,8,8,3,0,0,0,0,0,0,0,0,0,1,1,1,4,10,10,10,0,9,0,5,1,0,2,0]
def rulB:List Nat:=[0,6,0,0,0,0,0,0,0,0,0,7,2,0,0,0,0,1,0,0,0,0,0,0,0,0,0,0]
def wrdP (c:Cd)(o a b:Int):Bool :=
 decide (o<28)&&mayB c (rulA.getD o.toNat 0) a&&mayB c (rulB.getD o.toNat 0) b &&
  (if o=1/\b=2 then mayB c 2 (c.cs.getD a.toNat 0) else if o=2 then decide (0<=c.cs.getD a.toNat 0) else true)
theorem wrd_same (c:Cd)(o a b:Int)(h0:0<=o)(h1:0<=a)(h2:a<268435456)(h3:0<=b)(h4:b<268435456):wrdP c o a b=wrdD c o a b:=by
 by_cases h28:o<28
 ·obtain⟨n,rfl⟩:=Int.eq_ofNat_of_zero_le h0;have hn:n<28:=by omega
  rw[Bool.eq_iff_iff]
  match n,hn with
  | 0,_ | 1,_ | 2,_ | 3,_ | 4,_ | 5,_ | 6,_ | 7,_ | 8,_ | 9,_ | 10,_ | 11,_ | 12,_ | 13,_ | 14,_ | 15,_ | 16,_ | 17,_ | 18,_ | 19,_ | 20,_ | 21,_ | 22,_ | 23,_ | 24,_ | 25,_ | 26,_ | 27,_ =>
   simp[wrdP,wrdD,mayB,rulA,rulB,spn];try split
   all_goals omega
 ·have e:wrdP c o a b=false:=by simp[wrdP,h28]
  rw[e];have hh:∀ k:Int,k<28->¬o=k:=fun k hk e=>by omega
  simp[wrdD,hh,h28]
def wrdB (c:Cd)(u:Int):Bool:=wrdD c (opW u) (aW u) (bW u)
def kndB (k:Int):Bool:=decide (1<=k)&&decide (k<=3)
def lenB (c:Cd):Bool:=decide (c.cs.length<=32768)&&decide (c.ns.length<=2000)&&decide (c.ks.length<=256)
def lstB (c:Cd):Bool:=lenB c&&c.ns.all (fun s=>nameB s.data.toList)&&c.ks.all kndB
def wdsB (c:Cd):Bool:=decide (0<c.ws.length)&&decide (c.ws.length<=32768)&&c.ws.all (wrdB c)
def rgtB (c:Cd):Bool:=lstB c&&wdsB c
structure Cd.Ok (c:Cd):Prop where
 ws:∀ u ∈ c.ws,0<=u/\u<18446744073709551616
 cs:∀ u ∈ c.cs,-9223372036854775808<=u/\u<=9223372036854775807
 ks:∀ u ∈ c.ks,-9223372036854775808<=u/\u<=9223372036854775807
 ns:∀ s ∈ c.ns,s.size<=maxLen
def lst {α:Type}(f:α->List UInt8)(l:List α):List UInt8:=sevs (l.length:Int)++(l.map f).flatten
def conB (n:Int):List UInt8:=sevs (zg n)
def namB (s:ByteArray):List UInt8:=sevs (s.size:Int)++s.data.toList
def bodB (c:Cd):List UInt8:=[73,67,49]++lst sevs c.ws++lst conB c.cs++lst namB c.ns++lst sevs c.ks
def stir (h:Int)(l:List UInt8):Int:=l.foldl (fun h b=>mx h (zg (b.toNat:Int))) h
def sumB (l:List UInt8):Int:=stir 0 l
def selB (h:Int):List UInt8:=(List.range 8).map fun i=>UInt8.ofNat (h.toNat / 256 ^ i)
def sldB (l:List UInt8):List UInt8:=l++selB (sumB l)
def encB (c:Cd):List UInt8:=sldB (bodB c)
theorem stir_bd (l:List UInt8):∀ h:Int,0<=h->h<18446744073709551616->0<=stir h l/\stir h l<18446744073709551616:=by
 induction l with
 | nil=>intro h h1 h2;exact⟨h1,h2⟩
 | cons b t ih=>intro h h1 h2;have:=mx_bd h (zg (b.toNat:Int));exact ih _ this.1 this.2
theorem sumB_bd (l:List UInt8):0<=sumB l/\sumB l<18446744073709551616:=stir_bd l 0 (by omega) (by omega)
theorem stir_snoc (h:Int)(l:List UInt8)(b:UInt8):stir h (l++[b])=mx (stir h l) (zg (b.toNat:Int)):=by
 simp[stir,List.foldl_append]
theorem selB_len (h:Int):(selB h).length=8:=by simp[selB]
theorem sldB_len (l:List UInt8):(sldB l).length=l.length+8:=by simp[sldB,selB_len]
theorem tk_ten (l:List UInt8):∀ i acc:Nat,i<=9->tk (l.take (10-i)) i acc=tk l i acc:=by
 induction l with
 | nil=>intro i acc _;simp
 | cons c t ih =>
  intro i acc hi;have e:(c::t).take (10-i)=c::t.take (9-i):=by rw[show 10-i=(9-i)+1 by omega,List.take_succ_cons]
  rw[e,tk,tk];by_cases h9:i=9
  ·subst h9;by_cases hc:1<c.toNat
   ·simp[hc]
   ·have:¬128<=c.toNat:=by omega
    simp[hc,this]
  ·have h:¬(i=9/\1<c.toNat):=by omega
   rw[if_neg h,if_neg h];by_cases h8:128<=c.toNat
   ·rw[if_pos h8,if_pos h8,<-ih (i+1) _ (by omega),show 10-(i+1)=9-i by omega]
   ·rw[if_neg h8,if_neg h8]
def numR (l:List UInt8):Option (Nat × List UInt8):=if (tk l 0 0).2.2=0 then some ((tk l 0 0).1,l.drop (tk l 0 0).2.1) else none
theorem numR_back {l r:List UInt8}{n:Nat}(h:numR l=some (n,r)):l=sevs (n:Int)++r/\n<18446744073709551616:=by
 unfold numR at h;split at h
 ·rename_i h0
  obtain⟨N,K,E⟩:∃N K,tk l 0 0=(N,K,0):=⟨(tk l 0 0).1,(tk l 0 0).2.1,by have e:tk l 0 0=((tk l 0 0).1,(tk l 0 0).2.1,(tk l 0 0).2.2):=rfl;rw[h0] at e;exact e⟩
  rw[E] at h;simp only[Option.some.injEq,Prod.mk.injEq] at h;obtain⟨rfl,rfl⟩:=h;obtain⟨_,_,_,h4,h5,_⟩:=tk_back0 l N K E;exact⟨by rw[h5,List.take_append_drop],h4⟩
 ·cases h
theorem numR_put (n:Nat)(r:List UInt8)(h:n<18446744073709551616):numR (sevs (n:Int)++r)=some (n,r):=by
 have e:=tk_sevs (n:Int) r (by omega) (by omega);unfold numR;rw[e];simp
theorem numR_putI (u:Int)(r:List UInt8)(h:0<=u)(h2:u<18446744073709551616):numR (sevs u++r)=some (u.toNat,r):=by
 obtain⟨n,rfl⟩:=Int.eq_ofNat_of_zero_le h;exact numR_put n r (by omega)
def cntR (most:Nat)(l:List UInt8):Option (Nat × List UInt8):=(numR l).bind fun x=>if x.1<=most then some x else none
def rdN {α:Type}(one:List UInt8->Option (α × List UInt8)):Nat->List UInt8->Option (List α × List UInt8)
 | 0,l=>some ([],l)
 | n+1,l=>(one l).bind fun x=>(rdN one n x.2).bind fun y=>some (x.1::y.1,y.2)
def rdL {α:Type}(most:Nat)(one:List UInt8->Option (α × List UInt8))(l:List UInt8):Option (List α × List UInt8):=(cntR most l).bind fun x=>rdN one x.1 x.2
def wrdR (l:List UInt8):Option (Int × List UInt8):=(numR l).map fun x=>((x.1:Int),x.2)
def conR (l:List UInt8):Option (Int × List UInt8):=(numR l).map fun x=>(zgb (x.1:Int),x.2)
def kndR (mk:Nat)(l:List UInt8):Option (Int × List UInt8):=(cntR mk l).map fun x=>((x.1:Int),x.2)
def takR (n:Nat)(l:List UInt8):Option (List UInt8 × List UInt8):=if n<=l.length then some (l.take n,l.drop n) else none
def namR (mn:Nat)(l:List UInt8):Option (ByteArray × List UInt8):=(cntR mn l).bind fun x=>(takR x.1 x.2).map fun y=>(⟨y.1.toArray⟩,y.2)
def rdC (mn mk:Nat)(l:List UInt8):Option (Cd × List UInt8) :=
 (takR 3 l).bind fun m=>if m.1=[73,67,49] then
  (rdL 32768 wrdR m.2).bind fun a=>(rdL 32768 conR a.2).bind fun b=>(rdL 2000 (namR mn) b.2).bind fun c=>(rdL 256 (kndR mk) c.2).map fun d=>(⟨a.1,b.1,c.1,d.1⟩,d.2)
 else none
structure Fits {α:Type}(one:List UInt8->Option (α × List UInt8))(f:α->List UInt8)(ok:α->Prop):Prop where
 back:∀ l x r,one l=some (x,r)->l=f x++r
 put:∀ x r,ok x->one (f x++r)=some (x,r)
theorem cntR_back {most:Nat}{l r:List UInt8}{n:Nat}(h:cntR most l=some (n,r)):l=sevs (n:Int)++r/\n<=most:=by
 unfold cntR at h;cases hn:numR l with
 | none=>rw[hn] at h;cases h
 | some x =>
  rw[hn] at h;simp only[Option.bind_some] at h;split at h
  ·cases h;exact⟨(numR_back hn).1,by assumption⟩
  ·cases h
theorem cntR_put (most n:Nat)(r:List UInt8)(h:n<=most)(hm:most<18446744073709551616):cntR most (sevs (n:Int)++r)=some (n,r):=by
 unfold cntR;rw[numR_put n r (by omega)];simp[h]
theorem rdN_back {α:Type}{one:List UInt8->Option (α × List UInt8)}{f:α->List UInt8}{ok:α->Prop}(F:Fits one f ok)(n:Nat) :
  ∀ l xs r,rdN one n l=some (xs,r)->l=(xs.map f).flatten++r/\xs.length=n:=by
 induction n with
 | zero=>intro l xs r h;simp[rdN] at h;obtain⟨rfl,rfl⟩:=h;exact⟨rfl,rfl⟩
 | succ n ih =>
  intro l xs r h;rw[rdN] at h;cases h1:one l with
  | none=>rw[h1] at h;cases h
  | some x =>
   obtain⟨x,l1⟩:=x;rw[h1] at h;simp only[Option.bind_some] at h;cases h2:rdN one n l1 with
   | none=>rw[h2] at h;cases h
   | some y =>
    obtain⟨y,l2⟩:=y;rw[h2] at h;simp only[Option.bind_some,Option.some.injEq,Prod.mk.injEq] at h;obtain⟨rfl,rfl⟩:=h;obtain⟨e1,e2⟩:=ih _ _ _ h2;refine⟨?_,by simp[e2]⟩;rw[F.back _ _ _ h1,e1];simp
theorem rdN_put {α:Type}{one:List UInt8->Option (α × List UInt8)}{f:α->List UInt8}{ok:α->Prop}(F:Fits one f ok)(xs:List α) :
  ∀ r,(∀ x ∈ xs,ok x)->rdN one xs.length ((xs.map f).flatten++r)=some (xs,r):=by
 induction xs with
 | nil=>intro r _;rfl
 | cons x t ih =>
  intro r h;have hx:=F.put x ((t.map f).flatten++r) (h x (List.mem_cons_self ..));have ht:=ih r (fun y hy=>h y (List.mem_cons_of_mem _ hy));simp only[List.map_cons,List.flatten_cons,List.length_cons,List.append_assoc];rw[rdN,hx];simp only[Option.bind_some];rw[ht];rfl
theorem rdL_back {α:Type}{one:List UInt8->Option (α × List UInt8)}{f:α->List UInt8}{ok:α->Prop}(F:Fits one f ok){most:Nat}{l r:List UInt8}{xs:List α}
  (h:rdL most one l=some (xs,r)):l=lst f xs++r:=by
 unfold rdL at h;cases hc:cntR most l with
 | none=>rw[hc] at h;cases h
 | some x =>
  obtain⟨n,l1⟩:=x;rw[hc] at h;simp only[Option.bind_some] at h;obtain⟨e1,e2⟩:=rdN_back F _ _ _ _ h;rw[(cntR_back hc).1,e1,<-e2,lst,List.append_assoc]
theorem rdL_put {α:Type}{one:List UInt8->Option (α × List UInt8)}{f:α->List UInt8}{ok:α->Prop}(F:Fits one f ok){most:Nat}(xs:List α)(r:List UInt8)
  (hm:xs.length<=most) (h2:most<18446744073709551616) (h:∀ x ∈ xs,ok x):rdL most one (lst f xs++r)=some (xs,r):=by
 unfold rdL lst;rw[List.append_assoc,cntR_put most xs.length _ hm h2];simp only[Option.bind_some];exact rdN_put F xs r h
theorem fits_wrd:Fits wrdR sevs (fun u=>0<=u/\u<18446744073709551616):=by
 constructor
 ·intro l x r h;unfold wrdR at h;cases hn:numR l with
  | none=>rw[hn] at h;cases h
  | some y=>rw[hn] at h;cases h;exact(numR_back hn).1
 ·intro x r h;unfold wrdR;rw[numR_putI x r h.1 h.2];simp only[Option.map_some,Option.some.injEq,Prod.mk.injEq,and_true];omega
theorem fits_con:Fits conR conB (fun u=>-9223372036854775808<=u/\u<=9223372036854775807):=by
 constructor
 ·intro l x r h;unfold conR at h;cases hn:numR l with
  | none=>rw[hn] at h;cases h
  | some y=>rw[hn] at h;cases h;rw[(numR_back hn).1,conB,zg_zgb _ (by omega)]
 ·intro x r h;have b:=zg_bd x h.1 h.2;unfold conR conB;rw[numR_putI _ r b.1 b.2];simp only[Option.map_some,Option.some.injEq,Prod.mk.injEq,and_true];rw[Int.toNat_of_nonneg b.1,zgb_zg]
theorem fits_knd (mk:Nat)(h3:mk<18446744073709551616):Fits (kndR mk) sevs (fun u=>0<=u/\u<=(mk:Int)):=by
 constructor
 ·intro l x r h;unfold kndR at h;cases hn:cntR mk l with
  | none=>rw[hn] at h;cases h
  | some y=>rw[hn] at h;cases h;exact(cntR_back hn).1
 ·intro x r h;obtain⟨n,rfl⟩:=Int.eq_ofNat_of_zero_le h.1;unfold kndR;rw[cntR_put mk n r (by omega) h3];rfl
theorem fits_nam (mn:Nat)(h3:mn<18446744073709551616):Fits (namR mn) namB (fun s=>s.size<=mn):=by
 constructor
 ·intro l x r h;unfold namR at h;cases hn:cntR mn l with
  | none=>rw[hn] at h;cases h
  | some y =>
   obtain⟨n,l1⟩:=y;rw[hn] at h;simp only[Option.bind_some,takR] at h;split at h
   ·rename_i hle
    simp only[Option.map_some,Option.some.injEq,Prod.mk.injEq] at h;obtain⟨rfl,rfl⟩:=h;have e:(⟨(l1.take n).toArray⟩:ByteArray).size=n:=by show (l1.take n).toArray.size=n;simp;omega
    rw[(cntR_back hn).1,namB,e];simp
   ·cases h
 ·intro x r h;have hl:x.data.toList.length=x.size:=Array.length_toList;unfold namR namB;rw[List.append_assoc,cntR_put mn x.size _ h h3];have e1:(x.data.toList++r).take x.size=x.data.toList:=by rw[<-hl,List.take_left'];rfl
  have e2:(x.data.toList++r).drop x.size=r:=by rw[<-hl,List.drop_left'];rfl
  simp only[Option.bind_some,takR];rw[if_pos (by simp),e1,e2];rfl
theorem rdC_back {mn mk:Nat}(hn:mn<18446744073709551616)(hk:mk<18446744073709551616){l r:List UInt8}{c:Cd}(h:rdC mn mk l=some (c,r)):l=bodB c++r:=by
 unfold rdC at h;cases h0:takR 3 l with
 | none=>rw[h0] at h;cases h
 | some m =>
  obtain⟨m,l0⟩:=m;rw[h0] at h;simp only[Option.bind_some] at h;split at h
  ·rename_i hm
   cases h1:rdL 32768 wrdR l0 with
   | none=>rw[h1] at h;cases h
   | some a =>
    obtain⟨a,l1⟩:=a;rw[h1] at h;simp only[Option.bind_some] at h;cases h2:rdL 32768 conR l1 with
    | none=>rw[h2] at h;cases h
    | some b =>
     obtain⟨b,l2⟩:=b;rw[h2] at h;simp only[Option.bind_some] at h;cases h3:rdL 2000 (namR mn) l2 with
     | none=>rw[h3] at h;cases h
     | some n =>
      obtain⟨n,l3⟩:=n;rw[h3] at h;simp only[Option.bind_some] at h;cases h4:rdL 256 (kndR mk) l3 with
      | none=>rw[h4] at h;cases h
      | some d =>
       obtain⟨d,l4⟩:=d;rw[h4] at h;simp only[Option.map_some,Option.some.injEq,Prod.mk.injEq] at h;obtain⟨rfl,rfl⟩:=h;unfold takR at h0;split at h0
       ·simp only[Option.some.injEq,Prod.mk.injEq] at h0;obtain⟨g1,g2⟩:=h0;have e:l=m++l0:=by rw[<-g1,<-g2,List.take_append_drop]
        rw[e,hm,rdL_back fits_wrd h1,rdL_back fits_con h2,rdL_back (fits_nam mn hn) h3,rdL_back (fits_knd mk hk) h4];simp[bodB]
       ·cases h0
  ·cases h
theorem rgt_lens {c:Cd}(h:rgtB c=true):0<c.ws.length/\c.ws.length<=32768/\c.cs.length<=32768/\c.ns.length<=2000/\c.ks.length<=256:=by
 simp only[rgtB,lstB,lenB,wdsB,Bool.and_eq_true,decide_eq_true_eq] at h;omega
theorem rgt_names {c:Cd}(h:rgtB c=true):∀ s ∈ c.ns,s.size<=12:=by
 simp only[rgtB,lstB,wdsB,Bool.and_eq_true,List.all_eq_true] at h;intro s hs;have hn:=h.1.1.2 s hs;have hl:s.data.toList.length=s.size:=Array.length_toList;unfold nameB at hn;split at hn
 ·cases hn
 ·rename_i hx
  simp only[Bool.and_eq_true,decide_eq_true_eq] at hn;rw[hx] at hl;simp at hl;omega
theorem rgt_kinds {c:Cd}(h:rgtB c=true):∀ k ∈ c.ks,1<=k/\k<=3:=by
 simp only[rgtB,lstB,wdsB,Bool.and_eq_true,List.all_eq_true] at h;intro k hk
 have:=h.1.2 k hk
 simpa [kndB] using this
theorem rdC_put {mn mk:Nat}(hn:mn<18446744073709551616)(hk:mk<18446744073709551616)(hn2:12<=mn)(hk2:3<=mk)(c:Cd)(r:List UInt8)(ho:c.Ok)(h:rgtB c=true):rdC mn mk (bodB c++r)=some (c,r):=by
 obtain⟨l0,l1,l2,l3,l4⟩:=rgt_lens h;have hns:=rgt_names h;have hks:=rgt_kinds h;unfold rdC bodB;have e:takR 3 ([73,67,49]++lst sevs c.ws++lst conB c.cs++lst namB c.ns++lst sevs c.ks++r)=some ([73,67,49],lst sevs c.ws++(lst conB c.cs++(lst namB c.ns++(lst sevs c.ks++r)))):=by
  unfold takR;rw[if_pos (by simp)];simp
 rw[e];simp only[Option.bind_some];rw[if_pos trivial,rdL_put fits_wrd c.ws _ (by omega) (by omega) ho.ws];simp only[Option.bind_some];rw[rdL_put fits_con c.cs _ (by omega) (by omega) ho.cs];simp only[Option.bind_some];rw[rdL_put (fits_nam mn hn) c.ns _ (by omega) (by omega) (fun s hs=>by have:=hns s hs;omega)];simp only[Option.bind_some];rw[rdL_put (fits_knd mk hk) c.ks _ (by omega) (by omega) (fun s hs=>by have:=hks s hs;omega)];rfl
def IsE (l:List UInt8)(c:Cd):Prop:=c.Ok/\rgtB c=true/\encB c=l
theorem IsE.read {l:List UInt8}{c:Cd}(h:IsE l c){mn mk:Nat}(hn:mn<18446744073709551616)(hk:mk<18446744073709551616)(hn2:12<=mn)(hk2:3<=mk):rdC mn mk l=some (c,selB (sumB (bodB c))):=by
 rw[<-h.2.2];exact rdC_put hn hk hn2 hk2 c _ h.1 h.2.1
theorem IsE.uniq {l:List UInt8}{c d:Cd}(h:IsE l c)(g:IsE l d):c=d:=by
 have a:=h.read (mn:=12) (mk:=3) (by omega) (by omega) (by omega) (by omega);have b:=g.read (mn:=12) (mk:=3) (by omega) (by omega) (by omega) (by omega);rw[a] at b;simp only[Option.some.injEq,Prod.mk.injEq] at b;exact b.1
end Go.Proofs.YtjjhcbmhdkobkaaDoor
