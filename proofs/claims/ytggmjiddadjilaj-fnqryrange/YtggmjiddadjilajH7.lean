/-
  PROVED HERE: what the drawing reader's l20Open and pick answer: a reader over the code; a number from 0 to n - 1; of what was in memory nothing is turned but the reader's own place. Also: what a border that is ok is, as a Bool. Also: what the program's TxtOk answers at every string: the Bool 'txtOkB', and the memory is left as it was. Also: what the model's TxtOk answers at every text; nothing that was in memory is turned. Also: what a cell that is ok is, as a Bool. Also: what a column of which something may be said is, as a Bool. Also: what a table that is ok is, as a Bool. Also: the part of a row of a table.
-/
import Derived.Test.YtggmjiddadjilajH6
import Derived.Test.YtggmjiddadjilajH1
import Derived.WalkLawsBesides
import Derived.WalkSpells
import Derived.Deep.QuietTactic
import Derived.BigQuiet
import Derived.Laws.BitsAllLaws
import Derived.RegionTactic
import Derived.Lib.SmallJoins
import Derived.OpenShut
import Derived.WalkKit
import Derived.ProofKit
import Derived.Below
import Derived.Test.YtggmjiddadjilajRows
import Derived.Lib.Strings
namespace Go.Proofs.Ytggmjiddadjilaj
open Go.RowKit

/-- A reader at block r: over a code of at most 2000 bytes; at most B numbers have been picked. -/
def Rd (w:World) (r B:Nat):Prop :=
 ∃ (a:Option Addr) (len cap p:Nat),p≤B∧len≤2000∧w.heap[r]?=some (.cells #[.slice a len cap,.int .i64 p] 98) ∧
  ∀ i,i < len→∃ (b off:Nat) (z:Int),a=some ⟨b,off,none⟩∧b < r∧w.cell? ⟨b,off+i,none⟩=some (.int .u8 z)∧0≤z∧z≤255

theorem Rd.lt {w:World} {r B:Nat} (h:Rd w r B):r < w.heap.size:=by
 obtain ⟨a,len,cap,p,_,_,hb,_⟩:=h
 exact (Array.getElem?_eq_some_iff.1 hb).1
theorem Rd.mono {w:World} {r B B':Nat} (h:Rd w r B) (hB:B≤B'):Rd w r B':=by
 obtain ⟨a,len,cap,p,h1,h⟩:=h
 exact ⟨a,len,cap,p,by omega,h⟩
/-- A reader stays one where its own block and all older ones stay. -/
theorem Rd.kept {w w':World} {r B:Nat} (h:Rd w r B) (hb:Below w.heap.size w w'):Rd w' r B:=by
 have hlt:=h.lt
 obtain ⟨a,len,cap,p,h1,h2,hk,hc⟩:=h
 refine ⟨a,len,cap,p,h1,h2,(hb.block r hlt).trans hk,fun i hi=>?_⟩
 obtain ⟨b,off,z,e,l,c,z0,z1⟩:=hc i hi
 exact ⟨b,off,z,e,l,(hb.cell (p:=⟨b,off+i,none⟩) (Nat.lt_trans l hlt)).trans c,z0,z1⟩
/-- .. where its own block and all ahead of it stay. -/
theorem Rd.keep {w w':World} {r B:Nat} (h:Rd w r B) (hk:∀ k,k≤r→w'.heap[k]?=w.heap[k]?):Rd w' r B:=by
 obtain ⟨a,len,cap,p,h1,h2,hb,hc⟩:=h
 refine ⟨a,len,cap,p,h1,h2,(hk r (Nat.le_refl _)).trans hb,fun i hi=>?_⟩
 obtain ⟨b,off,z,e,l,c,z0,z1⟩:=hc i hi
 exact ⟨b,off,z,e,l,(World.cell?_of_block (w:=w) (a:=⟨b,off+i,none⟩) (hk b (Nat.le_of_lt l))).trans c,z0,z1⟩
theorem Rd.alloc {w:World} {r B:Nat} (h:Rd w r B) (o:Obj):Rd (w.alloc o) r B:=h.kept (k_alloc (Below.refl _ _) _)
theorem Rd.set {w:World} {r B:Nat} (h:Rd w r B) {p:Addr} (hp:r < p.block) (u:Value):Rd (w.setCell p u) r B:=h.keep (fun _ hk=>Below.heap_setCell _ _ _ _ (by omega))
theorem Rd.drew {w:World} {r B:Nat} (h:Rd w r B):Rd w.drew r B:=h.kept (k_drew (Below.refl _ _))

/-- within 0 .. n - 1, where there is such a number -/
def InR (n k:Int):Prop:=1≤n→0≤k∧k < n

theorem i64_xor_nonneg (a b:Int) (h1:0≤a) (h2:a < 4611686018427387904) (h3:0≤b) (h4:b < 4611686018427387904):0≤bits .xor .i64 a b:=by
 obtain ⟨A,rfl⟩:=Int.eq_ofNat_of_zero_le h1
 obtain ⟨B,rfl⟩:=Int.eq_ofNat_of_zero_le h3
 have hx:A ^^^ B < 2 ^ 62:=Nat.xor_lt_two_pow (by omega) (by omega)
 have e:bits .xor .i64 (A:Int) (B:Int)=IntKind.i64.wrap ((BitVec.ofInt 64 (A:Int) ^^^ BitVec.ofInt 64 (B:Int)).toNat:Int):=rfl
 rw [e,BitVec.toNat_xor,ofInt_u64 A (by omega),ofInt_u64 B (by omega)]
 simp [IntKind.wrap,IntKind.bits,IntKind.signed]
 omega

theorem wrap64_in {x:Int} (h1:0≤x) (h2:x < 4611686018427387904):wrap64 x=x:=by unfold wrap64;omega
theorem pick_math (n z y:Int) (p len:Nat) (hn:1≤n) (hp:p≤1000000) (z0:0≤z) (z1:z≤255) (y0:0≤y) (y1:y≤255) :
  InR n ((bits BinOp.xor IntKind.i64 (wrap64 (z * 131+y * 1117+(p:Int) * 29+wrap64 (wrap64 ((p:Int) / (len:Int)) * 53)))
   (wrap64 ((wrap64 (z * 131+y * 1117+(p:Int) * 29+wrap64 (wrap64 ((p:Int) / (len:Int)) * 53))).tdiv 64))).tmod n):=by
 have q0:0≤(p:Int) / (len:Int):=Int.ediv_nonneg (by omega) (by omega)
 have q1:(p:Int) / (len:Int)≤p:=Int.ediv_le_self _ (by omega)
 generalize (p:Int) / (len:Int)=q at q0 q1 ⊢
 rw [wrap64_in q0 (by omega),wrap64_in (x:=q * 53) (by omega) (by omega),wrap64_in (x:=z * 131+y * 1117+(p:Int) * 29+q * 53) (by omega) (by omega)]
 have X0:0≤z * 131+y * 1117+(p:Int) * 29+q * 53:=by omega
 have X1:z * 131+y * 1117+(p:Int) * 29+q * 53 < 4611686018427387904:=by omega
 generalize z * 131+y * 1117+(p:Int) * 29+q * 53=X at X0 X1 ⊢
 rw [Int.tdiv_eq_ediv_of_nonneg X0,wrap64_in (x:=X / 64) (by omega) (by omega)]
 have hx:=i64_xor_nonneg X (X / 64) X0 X1 (by omega) (by omega)
 generalize bits BinOp.xor IntKind.i64 X (X / 64)=Y at hx ⊢
 intro _
 rw [Int.tmod_eq_emod_of_nonneg hx]
 exact ⟨Int.emod_nonneg _ (by omega),Int.emod_lt_of_pos _ (by omega)⟩

theorem rd_next {w:World} {r B:Nat} {a:Option Addr} {len cap p:Nat} (hp:p≤B) (hl:len≤2000) (hk:w.heap[r]?=some (.cells #[.slice a len cap,.int .i64 p] 98))
  (hc:∀ i,i < len→∃ (b off:Nat) (z:Int),a=some ⟨b,off,none⟩∧b < r∧w.cell? ⟨b,off+i,none⟩=some (.int .u8 z)∧0≤z∧z≤255) :
  Rd (w.setCell ⟨r,1,none⟩ (.int .i64 ((p:Int)+1))) r (B+1)∧Bk r w (w.setCell ⟨r,1,none⟩ (.int .i64 ((p:Int)+1))):=by
 have bk:Bk r w (w.setCell ⟨r,1,none⟩ (.int .i64 ((p:Int)+1))):=(Bk.refl r w).set (Or.inl rfl) _
 refine ⟨⟨a,len,cap,p+1,by omega,hl,?_,fun i hi=>?_⟩,bk⟩
 ·rw [Joins.block_setCell hk]
  simp
 ·obtain ⟨b,off,z,e,l,c,z0,z1⟩:=hc i hi
  exact ⟨b,off,z,e,l,(bk.cell (p:=⟨b,off+i,none⟩) (Nat.lt_trans l (Array.getElem?_eq_some_iff.1 hk).1) (Nat.ne_of_lt l)).trans c,z0,z1⟩
theorem Rd.draws {w:World} {r B:Nat} (h:Rd w r B) (n:Nat):Rd (w.drewN n) r B:=h.kept (k_drewN (Below.refl _ _) n)

set_option maxRecDepth 100000 in
set_option maxHeartbeats 1000000 in
theorem pick_any (r B:Nat) (n:Int) (w:World) (h:Rd w r B) (hB:B≤1000000) :
  Calls Try.prog 34 #[.pointer (some ⟨r,0,none⟩),.int .i64 n] w fun e w'=>∃ k:Int,e=.returned (.int .i64 k)∧InR n k∧Rd w' r (B+1)∧Bk r w w':=by
 have hlt:=h.lt
 obtain ⟨a,len,cap,p,hp,hl,hk,hc⟩:=h
 have c0:w.cell? ⟨r,0,none⟩=some (.slice a len cap):=by simp [World.cell?,hk]
 have c1:w.cell? ⟨r,1,none⟩=some (.int .i64 p):=by simp [World.cell?,hk]
 have f1:w.frozen? ⟨r,1,none⟩=false:=by simp [World.frozen?,hk]
 obtain ⟨N1,N2⟩:=rd_next hp hl hk hc
 have HN1:Hid (Rd (w.setCell ⟨r,1,none⟩ (.int .i64 ((p:Int)+1))) r (B+1)):=N1
 have HN2:Hid (Bk r w (w.setCell ⟨r,1,none⟩ (.int .i64 ((p:Int)+1)))):=N2
 clear N1 N2 hk
 by_cases hn:n < 1
 ·as_aux_lemma =>
   clear hc
   go_enter Try.func34,Try.ntmps34
   go_wp2
   go_ret
   exact ⟨0,rfl,fun h=>absurd h (by omega),HN1.out,HN2.out⟩
 by_cases hz:len=0
 ·as_aux_lemma =>
   have hz':((len:Int) == 0)=true:=beq_iff_eq.2 (by omega)
   clear hc hz
   go_enter Try.func34,Try.ntmps34
   go_wp2
   go_ret
   exact ⟨0,rfl,fun h=>by omega,HN1.out,HN2.out⟩
 have hz':((len:Int) == 0)=false:=beq_eq_false_iff_ne.2 (by omega)
 have hn1:1≤n:=by omega
 by_cases hpl:p < len
 ·as_aux_lemma =>
   obtain ⟨b,off,z,rfl,hbr0,hcz,hz0,hz1⟩:=hc p hpl
   have hbr:b ≠ r:=by omega
   have hbl:b < w.heap.size:=by omega
   have c2:∀ v,(w.setCell ⟨r,1,none⟩ v).cell? ⟨b,off+p,none⟩=some (.int .u8 z):=fun v=>((Bk.refl r w).set (p:=⟨r,1,none⟩) (Or.inl rfl) v).cell (p:=⟨b,off+p,none⟩) hbl hbr |>.trans hcz
   clear hc hcz hz hbl
   go_enter Try.func34,Try.ntmps34
   go_wp2
   go_ret
   exact ⟨_,rfl,fun _=>⟨Int.emod_nonneg _ (by omega),Int.emod_lt_of_pos _ (by omega)⟩,HN1.out,HN2.out⟩
 ·as_aux_lemma =>
   have hm1:p % len < len:=Nat.mod_lt _ (by omega)
   have hm2:(p * 7+3) % len < len:=Nat.mod_lt _ (by omega)
   obtain ⟨b,off,z,rfl,hbr0,hcz,hz0,hz1⟩:=hc _ hm1
   have hbr:b ≠ r:=by omega
   have hbl:b < w.heap.size:=by omega
   obtain ⟨b',off',y,e',hbr',hcy,hy0,hy1⟩:=hc _ hm2
   simp only [Option.some.injEq,Addr.mk.injEq] at e'
   obtain ⟨rfl,rfl,_⟩:=e'
   have c2:∀ v,(w.setCell ⟨r,1,none⟩ v).cell? ⟨b,off+p % len,none⟩=some (.int .u8 z):=fun v=>((Bk.refl r w).set (p:=⟨r,1,none⟩) (Or.inl rfl) v).cell (p:=⟨b,off+p % len,none⟩) hbl hbr |>.trans hcz
   have c3:∀ v,(w.setCell ⟨r,1,none⟩ v).cell? ⟨b,off+(p * 7+3) % len,none⟩=some (.int .u8 y):=fun v=>((Bk.refl r w).set (p:=⟨r,1,none⟩) (Or.inl rfl) v).cell (p:=⟨b,off+(p * 7+3) % len,none⟩) hbl hbr |>.trans hcy
   have i1:0≤((p:Int) * 7+3) % (len:Int):=Int.emod_nonneg _ (by omega)
   have i2:((p:Int) * 7+3) % (len:Int) < (len:Int):=Int.emod_lt_of_pos _ (by omega)
   have i3:(((p:Int) * 7+3) % (len:Int)).toNat=(p * 7+3) % len:=by
    have:((p:Int) * 7+3) % (len:Int)=(((p * 7+3) % len:Nat):Int):=by simp
    rw [this,Int.toNat_natCast]
   clear hc hcz hcy hz hbl hbr'
   go_enter Try.func34,Try.ntmps34
   go_wp2
   refine wp_region_quiet_lit (by kernel_rfl) (by kernel_rfl) ?_
   repeat (go_big_quiet_step (fail))
   refine wpQuiet_nil ?_
   intro _ hw'
   obtain ⟨nq,hw''⟩:=hw'
   subst hw''
   go_wp2
   go_ret
   refine ⟨_,rfl,?_,HN1.out.draws _,HN2.out.drewN _⟩
   exact pick_math n z y p len hn1 (by omega) hz0 hz1 hy0 hy1

/-- What the walk is told of the code that came in: bytes in memory, or nil. -/
def IsCode (w:World) (a:Option Addr) (len cap:Nat):Prop :=
 len≤cap∧cap≤maxLen∧∀ i,i < len→∃ (b off:Nat) (z:Int),a=some ⟨b,off,none⟩∧b < w.heap.size∧w.cell? ⟨b,off+i,none⟩=some (.int .u8 z)∧0≤z∧z≤255

theorem isCode_nil (w:World):IsCode w none 0 0:=⟨Nat.le_refl _,Nat.zero_le _,fun _ hi=>absurd hi (Nat.not_lt_zero _)⟩
theorem block_of_cell {w:World} {b o:Nat} {v:Value} (h:w.cell? ⟨b,o,none⟩=some v):b < w.heap.size:=by
 rcases Nat.lt_or_ge b w.heap.size with h1 | h1
 ·exact h1
 ·simp [World.cell?,Array.getElem?_eq_none h1] at h
theorem getD_mem {zs:List Int} {i:Nat} (h:i < zs.length):zs.getD i 0 ∈ zs:=by
 have e:zs.getD i 0=zs[i]:=by simp [List.getD,h]
 rw [e];exact List.getElem_mem _
theorem isCode_of {w:World} {x:Addr} {len cap:Nat} {zs:List Int} (hl:len≤cap) (hm:cap≤maxLen) (hz:zs.length=cap) (hcell:∀ i,i < zs.length→w.cell? (x.add i)=some (.int .u8 (zs.getD i 0)))
  (hw:∀ n ∈ zs,(Lit.int .u8 n).wf=true):IsCode w (some x) len cap:=by
 refine ⟨hl,hm,fun i hi=>?_⟩
 obtain ⟨b,off,rfl,hc⟩:=ints_at hcell (by omega)
 have hci:=hc i (by omega)
 have hb:=bounds_u8 (hw _ (getD_mem (zs:=zs) (i:=i) (by omega)))
 exact ⟨b,off,_,rfl,block_of_cell hci,hci,hb.1,hb.2⟩

theorem rd_open {w:World} {a:Option Addr} {len cap:Nat} (L:Nat) (hL:L≤len) (h2:L≤2000)
  (hc:∀ i,i < len→∃ (b off:Nat) (z:Int),a=some ⟨b,off,none⟩∧b < w.heap.size∧w.cell? ⟨b,off+i,none⟩=some (.int .u8 z)∧0≤z∧z≤255) :
  Rd (w.alloc (.cells #[.slice a L cap,.int .i64 0] 98)) w.heap.size 0:=by
 refine ⟨a,L,cap,0,Nat.le_refl _,h2,?_,fun i hi=>?_⟩
 ·show (w.heap.push _)[w.heap.size]?=_
  simp
 ·obtain ⟨b,off,z,e,l,c,z0,z1⟩:=hc i (by omega)
  refine ⟨b,off,z,e,l,?_,z0,z1⟩
  exact ((k_alloc (Below.refl w.heap.size w) _).cell (p:=⟨b,off+i,none⟩) l).trans c

set_option maxRecDepth 100000 in
set_option maxHeartbeats 400000 in
theorem open_any (a:Option Addr) (len cap:Nat) (w:World) (h:IsCode w a len cap) :
  Calls Try.prog 32 #[.slice a len cap] w fun e w'=>e=.returned (.pointer (some ⟨w.heap.size,0,none⟩))∧Rd w' w.heap.size 0∧Below w.heap.size w w':=by
 obtain ⟨h1,h2,hc⟩:=h
 unfold maxLen at h2
 by_cases hl:(2000:Int) < (len:Int)
 ·go_enter Try.func32,Try.ntmps32
  go_wp2
  go_ret
  exact ⟨rfl,rd_open 2000 (by omega) (by omega) hc,k_alloc (Below.refl _ _) _⟩
 ·go_enter Try.func32,Try.ntmps32
  go_wp2
  go_ret
  exact ⟨rfl,rd_open len (by omega) (by omega) hc,k_alloc (Below.refl _ _) _⟩
end Go.Proofs.Ytggmjiddadjilaj
namespace Go.Proofs.Ytggmjiddadjilaj
open Go.RowKit

def brdOkB (a b:Int):Bool:=decide ((a=0∨a=4)∧b=0∨(1≤a∧a≤3)∧1≤b∧b≤3)
theorem brd_zero (b:Int):brdOkB 0 b=(b == 0):=by rw [Bool.eq_iff_iff];simp [brdOkB]
theorem brd_four (b:Int):brdOkB 4 b=(b == 0):=by rw [Bool.eq_iff_iff];simp [brdOkB];
theorem brd_seen {a:Int} (b:Int) (h1:1≤a) (h2:a≤3):brdOkB a b=inB b 1 3:=by rw [Bool.eq_iff_iff];simp [brdOkB,inB];omega
theorem brd_other {a:Int} (b:Int) (h0:a ≠ 0) (h4:a ≠ 4) (h:¬ (1≤a∧a≤3)):brdOkB a b=false:=by simp [brdOkB];omega
end Go.Proofs.Ytggmjiddadjilaj
namespace Go.Proofs.Ytggmjiddadjilaj
open Go.RowKit

/-- the i-th byte of a text, 0 past its end -/
def ch (s:ByteArray) (i:Nat):Int:=if h:i < s.size then (s[i].toNat:Int) else 0
def goodB (s:ByteArray) (i:Nat):Bool:=decide ((ch s i=32→i ≠ 0∧i+1 ≠ s.size∧ch s (i - 1) ≠ 32)∧(ch s i ≠ 32→97≤ch s i∧ch s i≤122))
def txtOkB (s:ByteArray):Bool:=decide (s.size≤30) && (List.range s.size).all (goodB s)

theorem txtOkB_iff (s:ByteArray):txtOkB s=true ↔ s.size≤30∧∀ i,i < s.size→goodB s i=true:=by
 simp [txtOkB,List.all_eq_true]
theorem txtOkB_long {s:ByteArray} (h:¬ s.size≤30):txtOkB s=false:=by simp [txtOkB,h]
theorem txtOkB_bad {s:ByteArray} (i:Nat) (hi:i < s.size) (h:goodB s i=false):txtOkB s=false:=by
 cases hb:txtOkB s with
 | false=>rfl
 | true=>rw [((txtOkB_iff s).1 hb).2 i hi] at h;cases h
theorem txtOkB_all {s:ByteArray} (h30:s.size≤30) (h:∀ i,i < s.size→goodB s i=true):txtOkB s=true:=(txtOkB_iff s).2 ⟨h30,h⟩
theorem ch_at {s:ByteArray} {i:Nat} (h:i < s.size):ch s i=(s[i].toNat:Int):=by simp [ch,h]
theorem next_all {s:ByteArray} {k:Nat} (h:∀ j,j < k→goodB s j=true) (hk:goodB s k=true):∀ j,j < k+1→goodB s j=true:=by
 intro j hj
 rcases Nat.lt_or_eq_of_le (Nat.lt_succ_iff.1 hj) with h1 | h1
 ·exact h j h1
 ·rw [h1];exact hk
theorem toList_nil {s:ByteArray} (h:s.size=0):s.toList=[]:=by
 rw [Lib.toList_data];exact List.eq_nil_of_length_eq_zero (by simpa using h)
theorem size_nil {s:ByteArray} (h:s.toList=[]):s.size=0:=by
 rw [Lib.toList_data] at h;have:=congrArg List.length h;simpa using this
theorem ret_bool {a b:Bool} (h:a=b):Ending.returned (.bool a)=.returned (.bool b):=by rw [h]

def bef (s:ByteArray) (k:Nat):Int:=if k=0 then 32 else ch s (k - 1)
def goodI (s:ByteArray) (j:Nat):Prop:=(ch s j=32→bef s j ≠ 32)∧(ch s j ≠ 32→97≤ch s j∧ch s j≤122)
theorem goodI_next {s:ByteArray} {k:Nat} (h:∀ j,j < k→goodI s j) (hk:goodI s k):∀ j,j < k+1→goodI s j:=by
 intro j hj
 rcases Nat.lt_or_eq_of_le (Nat.lt_succ_iff.1 hj) with h1 | h1
 ·exact h j h1
 ·rw [h1];exact hk
theorem txtOkB_badI {s:ByteArray} (k:Nat) (hk:k < s.size) (h:¬ goodI s k):txtOkB s=false:=by
 refine txtOkB_bad k hk ?_
 unfold goodI bef at h
 unfold goodB
 rw [decide_eq_false_iff_not]
 intro ⟨h1,h2⟩
 apply h
 refine ⟨fun e=>?_,h2⟩
 obtain ⟨a,_,c⟩:=h1 e
 simp [a];exact c
theorem txtOkB_endI {s:ByteArray} (h30:s.size≤30) (h:∀ j,j < s.size→goodI s j) (hz:s.size ≠ 0) (hl:bef s s.size ≠ 32):txtOkB s=true:=by
 refine txtOkB_all h30 (fun i hi=>?_)
 have hg:=h i hi
 unfold goodI bef at hg
 unfold bef at hl
 unfold goodB
 rw [decide_eq_true_iff]
 refine ⟨fun e=>?_,hg.2⟩
 have h1:=hg.1 e
 by_cases i0:i=0
 ·simp [i0] at h1
 ·simp [i0] at h1
  refine ⟨i0,fun he=>?_,h1⟩
  rw [if_neg hz,← he] at hl
  simp at hl
  exact hl e
theorem txtOkB_emptyI {s:ByteArray} (hz:s.size=0):txtOkB s=true:=txtOkB_all (by omega) (fun i hi=>by omega)
theorem txtOkB_lastI {s:ByteArray} (hz:s.size ≠ 0) (hl:bef s s.size=32):txtOkB s=false:=by
 refine txtOkB_bad (s.size - 1) (by omega) ?_
 unfold bef at hl
 rw [if_neg hz] at hl
 unfold goodB
 rw [decide_eq_false_iff_not]
 intro ⟨h1,_⟩
 exact (h1 hl).2.1 (by omega)
theorem bef_succ {s:ByteArray} {k:Nat} (h:k < s.size):bef s (k+1)=(s[k].toNat:Int):=by simp [bef,ch,h]

set_option maxRecDepth 100000 in
set_option maxHeartbeats 400000 in
theorem implTxtOk (s:ByteArray) (w:World) (hs:s.size≤maxLen) :
  Calls Try.prog 43 #[.string s] w fun e w'=>e=.returned (.bool (txtOkB s))∧w'=w:=by
 unfold maxLen at hs
 by_cases h30:s.size≤30
 ·go_enter Try.func43,Try.ntmps43
  go_wp2
  go_loop [3,4,10] (fun b _ i=>∃ (k:Nat) (B:Int),k≤s.size∧i=.int .i64 k∧b=.int .u8 B∧Hid (bef s k=B)∧Hid (∀ j,j < k→goodI s j)) (fun _ _ i=>s.size - (intOf i).toNat)
  case atStart=>exact ⟨0,32,Nat.zero_le _,rfl,rfl,rfl,fun j hj=>absurd hj (Nat.not_lt_zero _)⟩
  case round =>
   obtain ⟨k,B,hk,rfl,rfl,HBf,HA⟩:=hrel
   by_cases hlt:k < s.size
   ·have hb:(s[k].toNat:Int) < 256:=by have:=s[k].toNat_lt;omega
    have HC:Hid (ch s k=(s[k].toNat:Int)):=ch_at hlt
    have HS:Hid (bef s (k+1)=(s[k].toNat:Int)):=bef_succ hlt
    by_cases hc:(s[k].toNat:Int)=32
    ·have hc':((s[k].toNat:Int) == 32)=true:=beq_iff_eq.2 hc
     have hc2:((s[k].toNat:Int) != 32)=false:=by rw [bne,hc'];rfl
     have HE:Hid (ch s k=32):=HC.out.trans hc
     clear hc HC hb
     by_cases hB:B=32
     ·as_aux_lemma =>
       have hB':(B == 32)=true:=beq_iff_eq.2 hB
       have HF:Hid (txtOkB s=false):=txtOkB_badI k hlt (fun hg=>hg.1 HE.out (HBf.out.trans hB))
       clear hB HE HBf HA HS
       go_wp2
       go_ret
       exact ⟨ret_bool HF.out.symm,rfl⟩
     ·as_aux_lemma =>
       have hB':(B == 32)=false:=beq_eq_false_iff_ne.2 hB
       have HN:Hid (∀ j,j < k+1→goodI s j):=goodI_next HA.out ⟨fun _=>by rw [HBf.out];exact hB,fun hne=>absurd HE.out hne⟩
       clear hB HE HBf HA
       go_wp2
       go_round
       case rel=>exact ⟨k+1,_,by omega,by go_num,rfl,HS,HN⟩
       case measure=>simp [intOf];omega
    ·have hc':((s[k].toNat:Int) == 32)=false:=beq_eq_false_iff_ne.2 hc
     have hc2:((s[k].toNat:Int) != 32)=true:=bne_iff_ne.2 hc
     by_cases hr:97≤(s[k].toNat:Int)∧(s[k].toNat:Int)≤122
     ·as_aux_lemma =>
       have HN:Hid (∀ j,j < k+1→goodI s j):=goodI_next HA.out ⟨fun he=>absurd (HC.out.symm.trans he) hc,fun _=>by rw [HC.out];exact hr⟩
       obtain ⟨hr1,hr2⟩:=hr
       clear HC HA hc HBf
       go_wp2
       go_round
       case rel=>exact ⟨k+1,_,by omega,by go_num,rfl,HS,HN⟩
       case measure=>simp [intOf];omega
     ·have HF:Hid (txtOkB s=false):=txtOkB_badI k hlt (fun hg=>hr (by have:=hg.2 (by rw [HC.out];exact hc);rw [HC.out] at this;exact this))
      clear HC HA hc HBf HS
      by_cases hr1:97≤(s[k].toNat:Int)
      ·as_aux_lemma =>
        have hr2:¬ (s[k].toNat:Int)≤122:=by omega
        clear hr
        go_wp2
        go_ret
        exact ⟨ret_bool HF.out.symm,rfl⟩
      ·as_aux_lemma =>
        clear hr
        go_wp2
        go_ret
        exact ⟨ret_bool HF.out.symm,rfl⟩
   ·obtain rfl:k=s.size:=by omega
    by_cases hz:s.size=0
    ·have he:s.toList=[]:=toList_nil hz
     have HF:Hid (txtOkB s=true):=txtOkB_emptyI hz
     clear HBf HA
     go_wp2
     go_ret
     exact ⟨ret_bool HF.out.symm,rfl⟩
    ·have he:¬ s.toList=[]:=fun h=>hz (size_nil h)
     have he2:s.toList.isEmpty=false:=by simpa using he
     by_cases hB:B=32
     ·have hB':(B != 32)=false:=by simp [hB]
      have HF:Hid (txtOkB s=false):=txtOkB_lastI hz (HBf.out.trans hB)
      clear HBf HA hB hz he
      go_wp2
      go_ret
      exact ⟨ret_bool HF.out.symm,rfl⟩
     ·have hB':(B != 32)=true:=bne_iff_ne.2 hB
      have HF:Hid (txtOkB s=true):=txtOkB_endI h30 HA.out hz (by rw [HBf.out];exact hB)
      clear HBf HA hB hz he
      go_wp2
      go_ret
      exact ⟨ret_bool HF.out.symm,rfl⟩
 ·go_enter Try.func43,Try.ntmps43
  go_wp2
  go_ret
  exact ⟨ret_bool (txtOkB_long h30).symm,rfl⟩
end Go.Proofs.Ytggmjiddadjilaj
namespace Go.Proofs.Ytggmjiddadjilaj
open Go.RowKit

set_option maxRecDepth 100000 in
set_option maxHeartbeats 400000 in
theorem specTxtOk (s:ByteArray) (w:World) (hs:s.size≤maxLen) :
  Calls Try.prog 64 #[.string s] w fun e w'=>e=.returned (.bool (txtOkB s))∧w'=w:=by
 unfold maxLen at hs
 by_cases h30:s.size≤30
 ·go_enter Try.func64,Try.ntmps64
  go_wp2
  go_loop [3] (fun i=>∃ k:Nat,k≤s.size∧i=.int .i64 k∧∀ j,j < k→goodB s j=true) (fun i=>s.size - (intOf i).toNat)
  case atStart=>exact ⟨0,Nat.zero_le _,rfl,fun j hj=>absurd hj (Nat.not_lt_zero _)⟩
  case round =>
   obtain ⟨k,hk,rfl,hall0⟩:=hrel
   have HA:Hid (∀ j,j < k→goodB s j=true):=hall0
   clear hall0
   by_cases hlt:k < s.size
   ·have hb:(s[k].toNat:Int) < 256:=by have:=s[k].toNat_lt;omega
    have HC:Hid (ch s k=(s[k].toNat:Int)):=ch_at hlt
    by_cases hc:(s[k].toNat:Int)=32
    ·have hc':((s[k].toNat:Int) == 32)=true:=beq_iff_eq.2 hc
     have HE:Hid (ch s k=32):=HC.out.trans hc
     clear hc HC hb
     by_cases h0:k=0
     ·as_aux_lemma =>
       subst h0
       have hbad:goodB s 0=false:=by simp [goodB,HE.out]
       have HB:Hid (txtOkB s=false):=txtOkB_bad 0 hlt hbad
       clear hbad HE HA
       go_wp2
       go_ret
       exact ⟨ret_bool HB.out.symm,rfl⟩
     ·have h0':((k:Int) == 0)=false:=beq_eq_false_iff_ne.2 (by omega)
      by_cases h1:k+1=s.size
      ·as_aux_lemma =>
        have h1':((k:Int) == (s.size:Int) - 1)=true:=beq_iff_eq.2 (by omega)
        have hbad:goodB s k=false:=by simp [goodB,HE.out,h1]
        have HB:Hid (txtOkB s=false):=txtOkB_bad k hlt hbad
        clear hbad HE HA h1 h0
        go_wp2
        go_ret
        exact ⟨ret_bool HB.out.symm,rfl⟩
      ·have h1':((k:Int) == (s.size:Int) - 1)=false:=beq_eq_false_iff_ne.2 (by omega)
       have hl2:k - 1 < s.size:=by omega
       have HP:Hid (ch s (k - 1)=(s[k - 1].toNat:Int)):=ch_at hl2
       by_cases hp:(s[k - 1].toNat:Int)=32
       ·as_aux_lemma =>
         have hp':((s[k - 1].toNat:Int) == 32)=true:=beq_iff_eq.2 hp
         have hbad:goodB s k=false:=by simp [goodB,HE.out,HP.out,hp]
         have HB:Hid (txtOkB s=false):=txtOkB_bad k hlt hbad
         clear hbad HE HA HP hp
         go_wp2
         go_ret
         exact ⟨ret_bool HB.out.symm,rfl⟩
       ·as_aux_lemma =>
         have hp':((s[k - 1].toNat:Int) == 32)=false:=beq_eq_false_iff_ne.2 hp
         have hc2:((s[k].toNat:Int) != 32)=false:=by rw [bne,hc'];rfl
         have hgood:goodB s k=true:=by simp [goodB,HE.out,HP.out,hp,h0,h1]
         have HN:Hid (∀ j,j < k+1→goodB s j=true):=next_all HA.out hgood
         clear hgood HE HA HP hp
         go_wp2
         go_round
         case rel=>exact ⟨k+1,by omega,by go_num,HN.out⟩
         case measure=>simp [intOf];omega
    ·have hc':((s[k].toNat:Int) == 32)=false:=beq_eq_false_iff_ne.2 hc
     have hc2:((s[k].toNat:Int) != 32)=true:=bne_iff_ne.2 hc
     by_cases hr:97≤(s[k].toNat:Int)∧(s[k].toNat:Int)≤122
     ·as_aux_lemma =>
       obtain ⟨hr1,hr2⟩:=hr
       have hgood:goodB s k=true:=by simp [goodB,HC.out];omega
       have HN:Hid (∀ j,j < k+1→goodB s j=true):=next_all HA.out hgood
       clear hgood HC HA hc
       go_wp2
       go_round
       case rel=>exact ⟨k+1,by omega,by go_num,HN.out⟩
       case measure=>simp [intOf];omega
     ·have hbad:goodB s k=false:=by simp [goodB,HC.out];omega
      have HB:Hid (txtOkB s=false):=txtOkB_bad k hlt hbad
      clear hbad HC HA hc
      by_cases hr1:97≤(s[k].toNat:Int)
      ·as_aux_lemma =>
        have hr2:¬ (s[k].toNat:Int)≤122:=by omega
        clear hr
        go_wp2
        go_ret
        exact ⟨ret_bool HB.out.symm,rfl⟩
      ·as_aux_lemma =>
        clear hr
        go_wp2
        go_ret
        exact ⟨ret_bool HB.out.symm,rfl⟩
   ·go_wp2
    go_ret
    exact ⟨ret_bool (txtOkB_all h30 (fun i hi=>HA.out i (by omega))).symm,rfl⟩
 ·go_enter Try.func64,Try.ntmps64
  go_wp2
  go_ret
  exact ⟨ret_bool (txtOkB_long h30).symm,rfl⟩
end Go.Proofs.Ytggmjiddadjilaj
namespace Go.Proofs.Ytggmjiddadjilaj
open Go.RowKit

def cellOkB (s:ByteArray) (c r a1 b1 a2 b2 a3 b3 a4 b4:Int):Bool:=txtOkB s && (inB c 1 4 && (inB r 1 4 && (brdOkB a1 b1 && (brdOkB a2 b2 && (brdOkB a3 b3 && brdOkB a4 b4)))))
theorem Hid.mk {p:Prop} (h:p):Hid p:=h
end Go.Proofs.Ytggmjiddadjilaj
namespace Go.Proofs.Ytggmjiddadjilaj
open Go.RowKit

def colB (k n:Int):Bool:=decide (k=0∧n=0∨k=1∧0≤n∧n≤60∨k=2∧1≤n∧n≤100)
theorem colB_0' (n:Int):colB 0 n=(n == 0):=by rw [Bool.eq_iff_iff];simp [colB]
theorem colB_1 (n:Int):colB 1 n=inB n 0 60:=by rw [Bool.eq_iff_iff];simp [colB,inB]
theorem colB_2 (n:Int):colB 2 n=inB n 1 100:=by rw [Bool.eq_iff_iff];simp [colB,inB]
theorem colB_no {k:Int} (n:Int) (h0:k ≠ 0) (h1:k ≠ 1) (h2:k ≠ 2):colB k n=false:=by simp [colB];omega
end Go.Proofs.Ytggmjiddadjilaj
namespace Go.Proofs.Ytggmjiddadjilaj
open Go.RowKit

def cB (x:C):Bool:=cellOkB x.s x.c x.r x.a1 x.b1 x.a2 x.b2 x.a3 x.b3 x.a4 x.b4
def rowB (r:R):Bool:=decide (r.cells.length≤5) && r.cells.all cB
def colsB (ps:List (Int × Int)):Bool:=decide (ps.length≤8) && ps.all (fun p=>colB p.1 p.2)
def partsB (n:Nat) (hd ft:Int):Bool:=inB hd 0 n && inB ft 0 (n - hd)
theorem all_true {α:Type} (d:α) (p:α→Bool) (l:List α) (h:∀ j,j < l.length→p (l.getD j d)=true):l.all p=true:=by
 rw [List.all_eq_true]
 intro x hx
 obtain ⟨j,hj,rfl⟩:=List.getElem_of_mem hx
 have e:l.getD j d=l[j]:=by simp [List.getD,hj]
 rw [← e];exact h j hj
theorem all_false {α:Type} (d:α) (p:α→Bool) (l:List α) (k:Nat) (hk:k < l.length) (h:p (l.getD k d)=false):l.all p=false:=by
 have e:l.getD k d=l[k]:=by simp [List.getD,hk]
 rw [e] at h
 cases hb:l.all p with
 | false=>rfl
 | true=>rw [List.all_eq_true.1 hb _ (List.getElem_mem hk)] at h;cases h
theorem next_true {α:Type} {d:α} {p:α→Bool} {l:List α} {k:Nat} (h:∀ j,j < k→p (l.getD j d)=true) (hk:p (l.getD k d)=true):∀ j,j < k+1→p (l.getD j d)=true:=by
 intro j hj
 rcases Nat.lt_or_eq_of_le (Nat.lt_succ_iff.1 hj) with h1 | h1
 ·exact h j h1
 ·rw [h1];exact hk
def tblB (t:T):Bool:=inB t.rows.length 1 8 && (partsB t.rows.length t.head t.foot && (inB t.gap 0 3 && (colsB t.cols && t.rows.all rowB)))
theorem newestO (w:World) (q:Obj):(w.alloc q).heap[w.heap.size]?=some q:=by show (w.heap.push q)[w.heap.size]?=_;simp
theorem fiveO {w:World} {g:Nat} {x0 x1 x2 x3 x4:Value} {t:TypeId} (h:w.heap[g]?=some (.cells #[x0,x1,x2,x3,x4] t)) :
  w.cell? ⟨g,0,none⟩=some x0∧w.cell? ⟨g,1,none⟩=some x1∧w.cell? ⟨g,2,none⟩=some x2∧w.cell? ⟨g,3,none⟩=some x3∧w.cell? ⟨g,4,none⟩=some x4 :=
 ⟨Joins.cell_of_block h 0,Joins.cell_of_block h 1,Joins.cell_of_block h 2,Joins.cell_of_block h 3,Joins.cell_of_block h 4⟩
end Go.Proofs.Ytggmjiddadjilaj
namespace Go.Proofs.Ytggmjiddadjilaj
open Go.RowKit

def partOf (t:T) (q:Int):Int:=if tblB t=true∧inB q 0 (t.rows.length - 1)=true then (if q < t.head then 0 else if t.rows.length - t.foot≤q then 2 else 1) else -1
theorem tblB_bounds {t:T} (h:tblB t=true):(1≤t.rows.length∧t.rows.length≤8)∧(0≤t.head∧t.head≤t.rows.length)∧0≤t.foot∧t.foot≤t.rows.length:=by
 simp only [tblB,partsB,Bool.and_eq_true] at h
 have h1:(1:Int)≤t.rows.length∧(t.rows.length:Int)≤8:=of_decide_eq_true h.1
 have h2:0≤t.head∧t.head≤t.rows.length:=of_decide_eq_true h.2.1.1
 have h3:0≤t.foot∧t.foot≤t.rows.length - t.head:=of_decide_eq_true h.2.1.2
 omega
end Go.Proofs.Ytggmjiddadjilaj
