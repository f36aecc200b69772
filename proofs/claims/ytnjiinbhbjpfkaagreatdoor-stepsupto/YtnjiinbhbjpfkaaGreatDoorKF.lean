import Derived.Test.YtnjiinbhbjpfkaaGreatDoorKC
import Derived.Test.YtnjiinbhbjpfkaaGreatDoorKB
import Derived.Test.YtnjiinbhbjpfkaaGreatDoorKD
import Derived.Test.YtnjiinbhbjpfkaaGreatDoorCards
import Derived.Test.YtnjiinbhbjpfkaaGreatDoorTie
import Derived.ProofKit
import Derived.LaidMore
import Derived.OpenShut
import Derived.Stop.Joined
import Derived.Lib.SmallJoins
import Derived.Carry
import Derived.ChangeSlices
set_option maxRecDepth 100000
set_option maxHeartbeats 0
set_option linter.all false
namespace Go.Proofs.YtnjiinbhbjpfkaaGreatDoor
open Go.RowKit Go.Proofs.Tryz
section
theorem B9(b:Nat)(s:ByteArray)(f r l i hi:Int)(w:World)(h:w.heap[b]? = some (gC s s.size f r l)): Calls prog 81 #[.pointer (some ⟨b,0,none⟩),.int .i64 i,.int .i64 hi] w λe w'=>e=.returned (.tuple #[.int .i64 0,.bool false])/\∃n,w'=w.drewN n:=by
 obtain⟨c0,c1,_,_,_⟩:=eR h;go_in;go_wp2
 go_quiet (fail)
 go_wp2
 go_ret2
 exact⟨rfl,_,rfl⟩
theorem B8(b:Nat)(s:ByteArray)(p:Nat)(f r l i hi x:Int)(w:World)(h:w.heap[b]? = some (gC s p f r l))(y:s.size<=maxLen)(W:p<s.size)(hx:Hid (x=(s[p].toNat:Int)))(u:i<=x)(H:x<=hi): Calls prog 81 #[.pointer (some ⟨b,0,none⟩),.int .i64 i,.int .i64 hi] w λe w'=>e=.returned (.tuple #[.int .i64 x,.bool true])/\∃n,w'=(w.drewN n).setCell ⟨b,1,none⟩ (.int .i64 (p+1)):=by
 unfold maxLen at y;obtain⟨c0,c1,_,_,_⟩:=eR h;obtain⟨J,_⟩:=gU h;have G:((p:Int) == (s.size:Int))=false:=by simp;omega
 have o:s[p].toNat<256:=eI _;rw[hx.out]at u H ⊢;go_in;go_wp2
 go_quiet (fail)
 go_wp2
 go_quiet (fail)
 go_wp2
 go_ret2
 exact⟨rfl,_,rfl⟩
theorem En(b:Nat)(s:ByteArray)(p:Nat)(f r l i hi x:Int)(w:World)(h:w.heap[b]? = some (gC s p f r l))(H:p<s.size)(hx:Hid (x=(s[p].toNat:Int)))(u:x<i\/hi<x): Calls prog 81 #[.pointer (some ⟨b,0,none⟩),.int .i64 i,.int .i64 hi] w λe w'=>e=.returned (.tuple #[.int .i64 0,.bool false])/\∃n,w'=w.drewN n:=by
 obtain⟨c0,c1,_,_,_⟩:=eR h;have y:((p:Int) == (s.size:Int))=false:=by simp;omega
 have o:s[p].toNat<256:=eI _;rw[hx.out]at u;by_cases G:(s[p].toNat:Int)<i
 all_goals
  go_in;go_wp2
  go_quiet (fail)
  go_wp2
  go_quiet (fail)
  go_wp2
  go_ret2
  exact⟨rfl,_,rfl⟩
theorem jH(b:Nat)(s:ByteArray)(p L H:Nat)(f r l i hi:Int)(w:World)(h:w.heap[b]? = some (gC s p f r l))(u:s.size<=maxLen)(y:i=L)(G:hi=H)(ht:M.tk s p L H=true): Calls prog 81 #[.pointer (some ⟨b,0,none⟩),.int .i64 i,.int .i64 hi] w λe w'=>e=.returned (.tuple #[.int .i64 (M.bt s p),.bool true])/\w'.heap[b]? = some (gC s ((p+1:Nat):Int) f r l)/\w.grownBy w' (some b):=by
 obtain⟨o,W,J⟩:=M.fK ht;have e:=M.lF s p o;refine(B8 b s p f r l i hi (M.bt s p) w h u o (by show _=_;rw[e]) (by omega) (by omega)).mono ?_;rintro e w' ⟨rfl,n,rfl⟩;exact⟨rfl,sH (w:=w.drewN n) h _,bp (db (ax _ _) _) (ag rfl) _⟩
theorem nz(b:Nat)(s:ByteArray)(p L H:Nat)(f r l i hi:Int)(w:World)(h:w.heap[b]? = some (gC s p f r l))(J:p<=s.size)(u:i=L)(y:hi=H)(ht:M.tk s p L H=false): Calls prog 81 #[.pointer (some ⟨b,0,none⟩),.int .i64 i,.int .i64 hi] w λe w'=>e=.returned (.tuple #[.int .i64 0,.bool false])/\w'.heap[b]? = some (gC s p f r l)/\w.grownBy w' (some b):=by
 by_cases o:p<s.size
 .have e:=M.lF s p o;have G:M.bt s p<L\/H<M.bt s p:=by simp[M.tk]at ht;omega
  refine(En b s p f r l i hi (M.bt s p) w h o (by show _=_;rw[e]) (by omega)).mono ?_;rintro e w' ⟨rfl,n,rfl⟩;exact⟨rfl,h,db (ax _ _) _⟩
 obtain rfl:p=s.size:=by omega
 refine(B9 b s f r l i hi w h).mono ?_;rintro e w' ⟨rfl,n,rfl⟩;exact⟨rfl,h,db (ax _ _) _⟩
theorem pz(b:Nat)(s S:ByteArray)(p R F L:Nat)(f r l:Int)(w:World)(h:w.heap[b]? = some (gC s p f r l))(hs:s.size<=maxLen)(hS:S.size<=3)(hp:p<=s.size)(hr:Hid (r=R))(hf:Hid (f=F))(hl:Hid (l=L))(h1:1<=R)(h2:1<=F)(h3:R<=8)(h4:F<=8): Calls prog 197 #[.pointer (some ⟨b,0,none⟩),.string S] w λe w'=>e=.returned (.bool (M.ops s R F L (M.eX S) p).2)/\w'.heap[b]? = some (gC s ((M.ops s R F L (M.eX S) p).1:Nat) f r l)/\w.grownBy w' (some b):=by
 have HS:Hid (s.size<=maxLen):=hs;go_in;go_wp2
 go_loopw [10] (λi wr=>∃k q:Nat,k<=S.size/\q<=s.size/\i=.int .i64 k/\Hid (wr.heap[b]? = some (gC s q f r l))/\w.grownBy wr (some b)/\Hid (M.ops s R F L ((M.eX S).drop k) q=M.ops s R F L (M.eX S) p)) (λi _=>S.size-(intOf i).toNat)
 case atStart=>exact⟨0,p,by omega,hp,rfl,h,ax _ _,rfl⟩
 case round=>
  obtain⟨k,q,hk,hq,rfl,G,Y,Z⟩:=hrel;by_cases a2:k<S.size
  .have y:Hid (M.ops s R F L (M.eX S) p=if S[k].toNat=116 then M.uQ s q L else if M.tk s q 0 (M.iQ R F S[k].toNat)=true then M.ops s R F L ((M.eX S).drop (k+1)) (q+1) else(q,false)):=by
    show _=_;rw[<-Z.out,M.kx S k a2];rfl
   by_cases ht:S[k].toNat=116
   .have o:Hid (M.ops s R F L (M.eX S) p=M.uQ s q L):=by show _=_;rw[y.out,aj ht]
    go_wp2_with fail
    refine(wV b s q L f r l _ G.out HS.out hq hl.out).mono ?_;rintro e w1 ⟨rfl,J,a0⟩;go_wp2_with fail
    go_ret;refine⟨?_,?_,an Y a0⟩
    .rw[o.out];rfl
    rw[o.out];exact J
   have a1:((S[k].toNat:Int) == 116)=false:=by simp;omega
   rw[aa ht]at y;go_wp2_with fail
   refine(xE b s S[k].toNat R F q f r l _ _ G.out hr.out hf.out h1 h2 h3 h4 rfl).mono ?_;rintro e w1 ⟨rfl,rfl⟩;go_wp2_with fail
   by_cases u:M.tk s q 0 (M.iQ R F S[k].toNat)=true
   .have o:Hid (M.ops s R F L (M.eX S) p=M.ops s R F L ((M.eX S).drop (k+1)) (q+1)):=by show _=_;rw[y.out,aj u]
    have a3:=(M.fK u).1;refine(jH b s q 0 _ f r l _ _ _ G.out HS.out rfl rfl u).mono ?_;rintro e w2 ⟨rfl,J,H⟩;have HH:Hid (w2.heap[b]? = some (gC s ((q+1:Nat):Int) f r l)):=J;go_wp2_with fail
    go_roundw
    case rel=>exact⟨k+1,q+1,by omega,by omega,by go_num,HH,an Y H,o.out.symm⟩
    case measure=>simp[intOf];omega
   have o:Hid (M.ops s R F L (M.eX S) p=(q,false)):=by show _=_;rw[y.out,aa u]
   refine(nz b s q 0 _ f r l _ _ _ G.out hq rfl rfl (by simpa using u)).mono ?_;rintro e w2 ⟨rfl,J,H⟩;have HH:Hid (w2.heap[b]? = some (gC s q f r l)):=J;go_wp2_with fail
   go_ret;refine⟨?_,?_,an Y H⟩
   .rw[o.out];rfl
   rw[o.out];exact HH.out
  obtain rfl:k=S.size:=by omega
  have o:Hid (M.ops s R F L (M.eX S) p=(q,true)):=by
   show _=_;rw[<-Z.out,M.qB];rfl
  go_wp2_with fail
  go_ret;refine⟨?_,?_,Y⟩
  .rw[o.out];rfl
  rw[o.out];exact G.out
def mB(w:World):Prop:=0<w.heap.size/\∀op,op<23->w.cell? ⟨0,op,none⟩=some (.string (M.KS op))
theorem mB.kept{w w':World}{b:Nat}(h:mB w)(o:w.grownBy w' (some b))(y:b≠0):mB w':=
 ⟨dm h.1 o.size,λi u=>(aw (a:=⟨0,i,none⟩) (o.block 0 h.1 (by intro e;injection e;omega))).trans (h.2 i u)⟩
theorem mB.alloc{w:World}(h:mB w)(o:Obj):mB (w.alloc o):=h.kept (b:=1) (ah _ _ _) (by omega)
def vZ(s:ByteArray)(p:Nat)(e:Ending)(ok:Bool):Prop:=∃a0 a1 a2 a3:Int,e=.returned (.tuple #[.agg #[.int .u8 a0,.int .u8 a1,.int .u8 a2,.int .u8 a3],.bool ok])/\(ok=true->a0=(M.bt s p:Int)/\a1=(M.bt s (p+1):Int)/\a2=(M.bt s (p+2):Int)/\a3=(M.bt s (p+3):Int))
theorem ky{w:World}{b:Nat}{s:ByteArray}{p f r l:Int}(h:w.heap[b]? = some (gC s p f r l))(o:Obj):(w.alloc o).heap[b]? = some (gC s p f r l):=(ak _ _ _ (bz h)).trans h
theorem oR{w w1:World}{b k:Nat}{G u i o:Value}{T:TypeId}(h:w.heap[k]? = some (.cells #[G,u,i,o] T (0,0)))(H:w.grownBy w1 (some b))(J:k≠b): k<w1.heap.size/\w1.cell? ⟨k,0,none⟩=some G/\w1.cell? ⟨k,1,none⟩=some u/\w1.cell? ⟨k,2,none⟩=some i/\w1.cell? ⟨k,3,none⟩=some o /\ w1.frozen? ⟨k,0,none⟩=false/\w1.frozen? ⟨k,1,none⟩=false/\w1.frozen? ⟨k,2,none⟩=false/\w1.frozen? ⟨k,3,none⟩=false:=by
 have y:=cm H h (by intro e;injection e;omega);exact⟨bz y,by simp[World.cell?,World.frozen?,y]⟩
theorem qY(b:Nat)(s:ByteArray)(p:Nat)(f r l:Int)(w:World)(h:w.heap[b]? = some (gC s p f r l))(y:p<=s.size)(ht:M.tk s p 0 22=false): Calls prog 147 #[.pointer (some ⟨b,0,none⟩)] w λe w'=>vZ s p e false/\w'.heap[b]? = some (gC s p f r l)/\w.grownBy w' (some b):=by
 have hb:=bz h;obtain⟨c0,c1,_,_,_⟩:=eR h;have H:Hid (w.heap[b]? = some (gC s p f r l)):=h;go_in;go_wp2_with fail
 refine(nz b s p 0 22 f r l _ _ _ (ky H _) y rfl rfl ht).mono ?_;rintro e w1 ⟨rfl,i,o⟩;obtain⟨hz,d0,Y,d2,J,Z,e1,W,G⟩:=oR (k:=w.heap.size) (bf w _) o (by omega);have u:Hid (w1.heap[b]? = some (gC s p f r l)):=i;go_wp2_with fail
 refine da (v:=.tuple #[.agg #[.int .u8 0,.int .u8 0,.int .u8 0,.int .u8 0],.bool false]) (by simp[results,results147,go_sem, *]) rfl ⟨⟨0,0,0,0,rfl,λh=>by cases h⟩,?_,?_⟩
 .repeat (rw[af _ _ _ _ (by simp;omega)])
  exact u
 repeat (refine bp ?_ (ab (by simp)) _)
 exact an (ah _ _ _) o
theorem qX(b:Nat)(s:ByteArray)(p R F L:Nat)(f r l:Int)(w:World)(h:w.heap[b]? = some (gC s p f r l))(hs:s.size<=maxLen)(W:b≠0)(Z:mB w)(hr:Hid (r=R))(hf:Hid (f=F))(hl:Hid (l=L))(h1:1<=R)(h2:1<=F)(h3:R<=8)(h4:F<=8)(ht:M.tk s p 0 22=true)(ho:Hid ((M.rz s (p+1) (M.bt s p) R F L).2=false)): Calls prog 147 #[.pointer (some ⟨b,0,none⟩)] w λe w'=>vZ s p e false/\w'.heap[b]? = some (gC s ((M.rz s (p+1) (M.bt s p) R F L).1:Nat) f r l)/\w.grownBy w' (some b):=by
 have hb:=bz h;obtain⟨c0,c1,_,_,_⟩:=eR h;have H:Hid (w.heap[b]? = some (gC s p f r l)):=h;have HS:Hid (s.size<=maxLen):=hs;obtain⟨hp,_,a1⟩:=M.fK ht;have HO:Hid (M.ops s R F L (M.eX (M.KS (M.bt s p))) (p+1)=M.rz s (p+1) (M.bt s p) R F L):=by
  show _=_;rw[(M.mC _ (by omega)).1,M.zO _ _ _ _ _ _ (by omega)]
 have HK:Hid ((M.KS (M.bt s p)).size<=3):=by show _<=_;rw[(M.mC _ (by omega)).2];exact bj _
 have HT:Hid (M.tk s p 0 22=true):=ht;have y:Hid (mB w):=Z;go_in;go_wp2_with fail
 refine(jH b s p 0 22 f r l _ _ _ (ky H _) HS rfl rfl HT).mono ?_;rintro e w1 ⟨rfl,o,J⟩;have i:=(y.alloc _).kept J W;have hc:=i.2 (M.bt s p) (by omega);have HH:Hid (w1.heap[b]? = some (gC s ((p+1:Nat):Int) f r l)):=o;generalize Y:M.bt s p=q at *;have HQ:Hid (M.bt s p=q):=Y;go_wp2_with fail
 refine(pz b s (M.KS q) (p+1) R F L f r l _ HH HS HK (by omega) hr hf hl h1 h2 h3 h4).mono ?_;rintro e w2 ⟨rfl,o,u⟩;rw[HO.out]at o ⊢;rw[ho.out];obtain⟨hz,d0,d1,d2,d3,e0,e1,e2,e3⟩:=oR (k:=w.heap.size) (bf w _) (an J u) (by omega);have G:Hid (w2.heap[b]? = some (gC s ((M.rz s (p+1) q R F L).1:Nat) f r l)):=o;go_wp2_with fail
 refine da (v:=.tuple #[.agg #[.int .u8 0,.int .u8 0,.int .u8 0,.int .u8 0],.bool false]) (by simp[results,results147,go_sem, *]) rfl ⟨⟨0,0,0,0,rfl,λh=>by cases h⟩,?_,?_⟩
 .repeat (rw[af _ _ _ _ (by simp;omega)])
  rw[HQ.out];exact G
 repeat (refine bp ?_ (ab (by simp)) _)
 exact an (an (ah _ _ _) J) u
theorem qW(b:Nat)(s:ByteArray)(p R F L:Nat)(f r l:Int)(w:World)(h:w.heap[b]? = some (gC s p f r l))(hs:s.size<=maxLen)(Y:b≠0)(hT:mB w)(hr:Hid (r=R))(hf:Hid (f=F))(hl:Hid (l=L))(h1:1<=R)(h2:1<=F)(h3:R<=8)(h4:F<=8)(ht:M.tk s p 0 22=true)(Z:Hid ((M.rz s (p+1) (M.bt s p) R F L).2=true)): Calls prog 147 #[.pointer (some ⟨b,0,none⟩)] w λe w'=>vZ s p e true/\w'.heap[b]? = some (gC s ((p+4:Nat):Int) f r l)/\w.grownBy w' (some b):=by
 have hb:=bz h;obtain⟨c0,c1,_,_,_⟩:=eR h;have H:Hid (w.heap[b]? = some (gC s p f r l)):=h;have HS:Hid (s.size<=maxLen):=hs;obtain⟨hp,_,a1⟩:=M.fK ht;have HO:Hid (M.ops s R F L (M.eX (M.KS (M.bt s p))) (p+1)=M.rz s (p+1) (M.bt s p) R F L):=by
  show _=_;rw[(M.mC _ (by omega)).1,M.zO _ _ _ _ _ _ (by omega)]
 have HK:Hid ((M.KS (M.bt s p)).size<=3):=by show _<=_;rw[(M.mC _ (by omega)).2];exact bj _
 have HT:Hid (M.tk s p 0 22=true):=ht;have y:Hid (mB w):=hT;clear h hs ht hT;go_in;go_wp2_with fail
 refine(jH b s p 0 22 f r l _ _ _ (ky H _) HS rfl rfl HT).mono ?_;rintro e w1 ⟨rfl,i,G⟩;have o:=(y.alloc _).kept G Y;have hc:=o.2 (M.bt s p) (by omega);have HH:Hid (w1.heap[b]? = some (gC s ((p+1:Nat):Int) f r l)):=i;clear i;generalize hq:M.bt s p=q at *;clear hq o;go_wp2_with fail
 refine(pz b s (M.KS q) (p+1) R F L f r l _ HH HS HK (by omega) hr hf hl h1 h2 h3 h4).mono ?_;rintro e w2 ⟨rfl,i,u⟩;rw[HO.out]at i ⊢;rw[Z.out];rw[M.ry Z]at i;have J:=(M.CQ (s:=s) (p:=p+1) (op:=q) (r:=R) (f:=F) (l:=L) (by omega)).2;rw[M.ry Z]at J;obtain⟨hz,d0,d1,d2,d3,e0,e1,e2,e3⟩:=oR (k:=w.heap.size) (bf w _) (an G u) (by omega);have W:Hid (w2.heap[b]? = some (gC s ((p+4:Nat):Int) f r l)):=i;obtain⟨x0,x1,_,_,_⟩:=eR i;clear i;go_wp2_with fail
 go_quiet (fail)
 go_wp2_with fail
 have h4:(s.extract p (p+1+3)).size=4:=by simp;omega
 have HX:Hid (M.bt (s.extract p (p+1+3)) 0=M.bt s p/\M.bt (s.extract p (p+1+3)) 1=M.bt s (p+1)/\M.bt (s.extract p (p+1+3)) 2=M.bt s (p+2)/\M.bt (s.extract p (p+1+3)) 3=M.bt s (p+3)):=
  ⟨M.mS s p _ 0 (by omega) (by omega),M.mS s p _ 1 (by omega) (by omega),M.mS s p _ 2 (by omega) (by omega),M.mS s p _ 3 (by omega) (by omega)⟩
 generalize s.extract p (p+1+3)=x at *;go_region
 go_wp2_with fail
 refine da (v:=.tuple #[.agg #[.int .u8 (x[0].toNat:Int),.int .u8 (x[1].toNat:Int),.int .u8 (x[2].toNat:Int),.int .u8 (x[3].toNat:Int)],.bool true]) (by simp[results,results147,go_sem, *]) rfl ⟨⟨_,_,_,_,rfl,λ_=>?_⟩,?_,?_⟩
 .obtain⟨k0,k1,k2,k3⟩:=HX;rw[M.lF x 0 (by omega)]at k0;rw[M.lF x 1 (by omega)]at k1;rw[M.lF x 2 (by omega)]at k2;rw[M.lF x 3 (by omega)]at k3;rw[k0,k1,k2,k3];exact⟨rfl,rfl,rfl,rfl⟩
 .repeat (rw[af _ _ _ _ (by simp;omega)])
  exact W
 repeat (refine bp ?_ (ab (by simp)) _)
 exact db (an (an (ah _ _ _) G) u) _
theorem qZ(b:Nat)(s:ByteArray)(p R F L:Nat)(f r l:Int)(w:World)(h:w.heap[b]? = some (gC s p f r l))(J:s.size<=maxLen)(hp:p<=s.size)(o:b≠0)(H:mB w)(y:Hid (r=R))(W:Hid (f=F))(hl:Hid (l=L))(G:1<=R)(Z:1<=F)(Y:R<=8)(h4:F<=8): Calls prog 147 #[.pointer (some ⟨b,0,none⟩)] w λe w'=>vZ s p e (M.ins s p R F L).2/\w'.heap[b]? = some (gC s ((M.ins s p R F L).1:Nat) f r l)/\w.grownBy w' (some b):=by
 by_cases ht:M.tk s p 0 22=true
 .have e:M.ins s p R F L=M.rz s (p+1) (M.bt s p) R F L:=by unfold M.ins;rw[aj ht]
  rw[e];by_cases u:(M.rz s (p+1) (M.bt s p) R F L).2=true
  .rw[u,M.ry u];exact qW b s p R F L f r l w h J o H y W hl G Z Y h4 ht u
  have i:(M.rz s (p+1) (M.bt s p) R F L).2=false:=by simpa using u
  rw[i];exact qX b s p R F L f r l w h J o H y W hl G Z Y h4 ht i
 have e:M.ins s p R F L=(p,false):=by unfold M.ins;rw[aa ht]
 rw[e];exact qY b s p f r l w h hp (by simpa using ht)
abbrev lZ(op a b c fb tb eb:Nat):Obj:=.cells #[.int .u8 op,.int .u8 a,.int .u8 b,.int .u8 c,P0 fb,P0 tb,P0 eb] 186 (0,0)
theorem fk{w':World}{sb op a b c fb tb eb:Nat}(h:w'.heap[sb]? = some (lZ op a b c fb tb eb)):w'.cell? ⟨sb,0,none⟩=some (.int .u8 op)/\w'.cell? ⟨sb,1,none⟩=some (.int .u8 a)/\w'.cell? ⟨sb,2,none⟩=some (.int .u8 b)/\w'.cell? ⟨sb,3,none⟩=some (.int .u8 c)/\w'.cell? ⟨sb,4,none⟩=some (P0 fb)/\w'.cell? ⟨sb,5,none⟩=some (P0 tb)/\w'.cell? ⟨sb,6,none⟩=some (P0 eb):=by
 simp[World.cell?,h]
theorem jf(w:World)(op a b c fb tb eb:Nat):(w.alloc (.cells #[.int .u8 op,.int .u8 a,.int .u8 b,.int .u8 c,P0 fb,P0 tb,P0 eb] 186)).heap[w.heap.size]? = some (lZ op a b c fb tb eb):=bf w _
theorem dp{w w':World}(h:w.grownBy w' none){k:Nat}{o:Obj}(i:w.heap[k]? = some o):w'.heap[k]? = some o:=cm h i (by intro e;cases e)
theorem uu(x:Bool)(w:World):Calls prog 92 #[.bool x] w λe w'=>e=.returned (.int .i64 (if x=true then 1 else 0))/\w'=w:=by
 cases x
 .go_in;go_wp2_with fail
  go_ret;exact⟨rfl,rfl⟩
 go_in;go_wp2_with fail
 go_ret;exact⟨rfl,rfl⟩
theorem Lt(x y:B.V)(w:World):(binOp .eql 149 (vA x) (vA y)).run prog w=.ok (.bool (decide (x=y))) w:=by
 obtain⟨e,o⟩:=x;obtain⟨i,u⟩:=y;have G:((e:Int)=(i:Int))↔e=i:=by omega
 simp[go_sem];by_cases k1:e=i<;>by_cases k2:o=u<;>simp[k1,k2,G]
theorem Cp(op a b c fb tb eb cb L nx rb nr:Nat)(back:Value)(R:Nat->B.V)(hb:b<nr)(hc:c<nr)(w:World)(hF:Fr w fb cb L nx rb nr back R): Calls prog 93 #[dZ op a b c fb tb eb] w λe w'=>e=.returned (vA (0,if R b=R c then 1 else 0))/\w.grownBy w' none:=by
 have KF:=az hF;clear hF;have a2:=Lt (R b) (R c);have Y:(if decide (R b=R c)=true then(1:Int) else 0)=(if R b=R c then 1 else 0):=by by_cases h:R b=R c<;>simp[h]
 rw[<-Y];clear Y;generalize decide (R b=R c)=d at *;generalize hy:(if d=true then(1:Int) else 0)=y;have HY:=az hy;clear hy;go_in;go_wp2_with fail
 generalize hW:(w.alloc (.cells #[.int .u8 (op:Int),.int .u8 (a:Int),.int .u8 (b:Int),.int .u8 (c:Int),P0 fb,P0 tb,P0 eb] 186)).alloc (.cells #[.int .i64 0,.int .i64 0] 149)=w1;have G:Hid (w.grownBy w1 none):=by rw[<-hW];exact au (ah _ _ _) _
 have hx:w1.heap[w.heap.size]? = some (lZ op a b c fb tb eb):=by rw[<-hW,ak _ _ _ (by simp)];exact bf w _
 have hr:w1.heap[w.heap.size+1]? = some (.cells #[.int .i64 0,.int .i64 0] 149 (0,0)):=by
  rw[<-hW];have:=bf (w.alloc (.cells #[.int .u8 (op:Int),.int .u8 (a:Int),.int .u8 (b:Int),.int .u8 (c:Int),P0 fb,P0 tb,P0 eb] 186)) (.cells #[.int .i64 0,.int .i64 0] 149);simpa using this
 clear hW;have Z:=az hx;have HR:=az hr;clear hx hr;obtain⟨x0,x1,x2,x3,x4,x5,x6⟩:=fk Z.out;go_region_with (first
   | (go_at_call 86;refine(pO op a b c fb tb eb cb L nx rb nr back R w1.drew (KF.out.kept G.out).1 (KF.out.kept G.out).2.1 hb).mono ?_;rintro e w2 ⟨rfl,o⟩;have u:Hid (w1.grownBy w2 none):=⟨o.os,o.tape,o.output,o.size,o.block⟩;clear o;obtain⟨x0,x1,x2,x3,x4,x5,x6⟩:=fk (dp u.out Z.out))
   | (go_at_call 94;refine(qJ op a b c fb tb eb cb L nx rb nr back R w2 (KF.out.kept (an G.out u.out)).1 (KF.out.kept (an G.out u.out)).2.1 hc).mono ?_;rintro e H ⟨rfl,J⟩;have W:=az (an u.out J);clear J;have i:=dp W.out HR.out;have r0:H.cell? ⟨w.heap.size+1,0,none⟩=some (.int .i64 0):=(by simp[World.cell?,i]);have r1:H.cell? ⟨w.heap.size+1,1,none⟩=some (.int .i64 0):=(by simp[World.cell?,i]);have r2:H.frozen? ⟨w.heap.size+1,0,none⟩=false:=(by simp[World.frozen?,i]);have r3:H.frozen? ⟨w.heap.size+1,1,none⟩=false:=(by simp[World.frozen?,i]);have a0:=bz i;clear i)
   | (go_at_call 92;refine(uu d H).mono ?_;rw[HY.out];rintro e w4 ⟨rfl,rfl⟩)
   | (go_at_call 61;refine(fH y _).mono ?_;rintro e w5 ⟨rfl,rfl⟩))
 all_goals
  go_wp2_with fail
  refine da (v:=vA (0,y)) (by simp[results,results93,go_sem,a0,r0,r1]) rfl ⟨rfl,?_⟩;exact au (bp (bp (an G.out W.out) (ab (by simp)) _) (ab (by simp)) _) _
def oG(s:ByteArray)(p:Nat):Nat->Value:=λj=>.int .u8 (M.bt s (p+j):Int)
def Av(s:ByteArray)(p:Nat)(w w':World)(e:Ending)(ok:Bool):Prop:=∃(x:Int) (ad:Option Addr) (n c:Nat),e=.returned (.tuple #[.agg #[.int .i64 x,.slice ad n c],.bool ok]) /\
 (ok=true->x=(M.bt s p:Int)/\n=M.bt s (p+1)/\c=n/\∃g,w.heap.size<=g/\ad=some ⟨g,0,none⟩/\Full w' g 183 (n*4) (n*4) (oG s (p+2)))
theorem Tryz.E9:(prog.info? 183).map (λi=>(i.zero,i.size,i.bytes))=some (some (.agg #[.int .u8 0,.int .u8 0,.int .u8 0,.int .u8 0]),4,4):=by kernel_rfl
theorem jF{w w1:World}{b k:Nat}{u i:Value}{T:TypeId}(h:w.heap[k]? = some (.cells #[u,i] T (0,0)))(y:w.grownBy w1 (some b))(G:k≠b): k<w1.heap.size/\w1.cell? ⟨k,0,none⟩=some u/\w1.cell? ⟨k,1,none⟩=some i/\w1.frozen? ⟨k,0,none⟩=false/\w1.frozen? ⟨k,1,none⟩=false:=by
 have o:=cm y h (by intro e;injection e;omega);exact⟨bz o,by simp[World.cell?,World.frozen?,o]⟩
theorem vF(b:Nat)(s:ByteArray)(p F:Nat)(f r l:Int)(w:World)(h:w.heap[b]? = some (gC s p f r l))(hs:s.size<=maxLen)(Y:b≠0)(hT:mB w)(hf:Hid (f=F))(h2:1<=F)(h4:F<=8)(aH:M.tk s p 2 8=true)(aB:M.tk s (p+1) 1 200=true): Calls prog 82 #[.pointer (some ⟨b,0,none⟩)] w λe w'=>Av s p w w' e (M.fn s p F).2/\∃r' l',w'.heap[b]? = some (gC s ((M.fn s p F).1:Nat) f r' l')/\w.grownBy w' (some b):=by
 have hb:=bz h;have H:Hid (w.heap[b]? = some (gC s p f r l)):=h;have HS:Hid (s.size<=maxLen):=hs;have aJ:Hid (M.tk s p 2 8=true):=aH;have aG:Hid (M.tk s (p+1) 1 200=true):=aB;obtain⟨_,q1,q2⟩:=M.fK aH;obtain⟨_,q3,q4⟩:=M.fK aB;have Z:Hid (mB w):=hT;clear h hs aH aB hT;go_in;go_wp2_with fail
 refine(jH b s p 2 8 f r l _ _ _ (ky H _) HS rfl rfl aJ).mono ?_;rintro e w1 ⟨rfl,G,hg⟩;have HH:Hid (w1.heap[b]? = some (gC s ((p+1:Nat):Int) f r l)):=G;obtain⟨_,_,_,x3,_⟩:=eR G;obtain⟨_,_,y3,y4⟩:=gU G;clear G;generalize hR:M.bt s p=R at *;have HR:Hid (M.bt s p=R):=hR;clear hR;go_wp2_with fail
 refine(jH b s (p+1) 1 200 f R l _ _ _ (sG HH _) HS rfl rfl aG).mono ?_;rintro e w2 ⟨rfl,G,a8⟩;have aD:Hid (w2.heap[b]? = some (gC s ((p+1+1:Nat):Int) f R l)):=G;obtain⟨_,_,_,z3,z4⟩:=eR G;obtain⟨_,_,_,u4⟩:=gU G;clear G;generalize hL:M.bt s (p+1)=L at *;have HL:Hid (M.bt s (p+1)=L):=hL;clear hL x3 y3 y4;obtain⟨i0,hi,aS,aO,aN⟩:=info_parts Tryz.E9;go_wp2_with (at_make;go_loud (refine wpList_make_full _ rfl _ _ 176 rfl 0 183 i0 _ 4 underlying176 hi aS aO _ _ _ _ L rfl rfl rfl rfl (by rw[aN];omega) (by unfold maxLen;omega) (dc _) ?_))
 intro w3 a9 aA;have u:(w2.setCell ⟨b,4,none⟩ (.int .i64 L)).grownBy w3 (some b):=eD aA;have gA:w.grownBy (w2.setCell ⟨b,4,none⟩ (.int .i64 L)) (some b):=bp (an (bp (an (ah _ _ _) hg) (ag rfl) _) a8) (ag rfl) _;have gB:(w.alloc (.cells #[.int .i64 0,.slice none 0 0] 178)).grownBy w3 (some b):=an (bp (an (bp hg (ag rfl) _) a8) (ag rfl) _) u;have KB:Hid (w3.heap[b]? = some (gC s ((p+2:Nat):Int) f R L)):=by
  show _=_;rw[aA.block b (by have:=bz aD;simpa[World.setCell] using this) (by intro e;cases e)];exact wY aD _
 have KG:Hid (w.grownBy w3 (some b)):=an gA u;have KR:Hid (w3.heap[w.heap.size]? = some (.cells #[.int .i64 0,.slice none 0 0] 178 (0,0))):=cm gB (bf w _) (by intro e;injection e;omega);have KT:Hid (mB w3):=Z.kept KG Y;have KW:Hid (Full w3 w2.heap.size 183 (L*4) (0*4) (oG s (p+2))):=(jB.owned a9).full _;have aY:w.heap.size<w2.heap.size:=by have:=hg.size;have:=a8.size;simp[World.setCell]at *;omega
 have aL:Hid (mB w):=Z.out;clear a9 aA u gA gB HH aD z3 z4 u4 hg a8 Z;generalize w2.heap.size=g at *;have a6:Hid (M.fn s p F=M.code s R F L (p+2) L):=by
  show _=_;unfold M.fn;rw[aj aJ.out,aj aG.out,HR.out,HL.out]
 go_wp2_with fail
 go_loopw [36] (λi wr=>∃k q:Nat,k<=L/\q<=s.size/\i=.int .i64 k/\Hid (wr.heap[b]? = some (gC s q f R L))/\Hid (w.grownBy wr (some b))/\Hid (wr.heap[w.heap.size]? = some (.cells #[.int .i64 0,.slice none 0 0] 178 (0,0)))/\Hid (mB wr)/\Hid (Full wr g 183 (L*4) (k*4) (oG s (p+2)))/\Hid (q=p+2+4*k)/\Hid (M.code s R F L q (L-k)=M.code s R F L (p+2) L)) (λi _=>L-(intOf i).toNat)
 case atStart=>exact⟨0,p+2,by omega,by omega,rfl,KB,KG,KR,KT,KW,rfl,rfl⟩
 case round=>
  obtain⟨k,q,hk,hq,rfl,rB,rG,rR,rT,rW,rQ,rC⟩:=hrel;clear KB KG KR KT KW;by_cases aW:k<L
  .go_wp2_with fail
   refine(qZ b s q R F L f R L _ rB.out HS.out hq Y rT.out rfl hf rfl (by omega) h2 q2 h4).mono ?_;rintro e w4 ⟨⟨a0,a1,a2,a3,rfl,hA⟩,G,u⟩;have HA:Hid ((M.ins s q R F L).2=true->a0=(M.bt s q:Int)/\a1=(M.bt s (q+1):Int)/\a2=(M.bt s (q+2):Int)/\a3=(M.bt s (q+3):Int)):=hA;clear hA;have aQ:g≠b:=by omega
   have aR:w.heap.size≠b:=by omega
   have W:Hid (Full w4 g 183 (L*4) (k*4) (oG s (p+2))):=rW.out.kept u aQ;have a5:Hid (w4.heap[b]? = some (gC s ((M.ins s q R F L).1:Nat) f R L)):=G;have a4:Hid (w.grownBy w4 (some b)):=an rG.out u;have a7:Hid (w4.heap[w.heap.size]? = some (.cells #[.int .i64 0,.slice none 0 0] 178 (0,0))):=cm u rR.out (by intro e;injection e;omega);clear G u rB rG rR rT rW
   cases hok:(M.ins s q R F L).2
   .have HC:Hid (M.code s R F L (p+2) L=((M.ins s q R F L).1,false)):=by
     show _=_;rw[<-rC.out,show L-k=(L-(k+1))+1 by omega];unfold M.code;rw[aa (by rw[hok];simp)]
    clear rC hok;simp only[];iterate 13 (first|go_values|go_skip|go_guarded|go_step|go_upon|go_back)
    refine wpList_store_mid rfl 183 (.tmp 46) (.tmp 44) rfl g (k*4) #[.int .u8 a0,.int .u8 a1,.int .u8 a2,.int .u8 a3] rfl rfl (W.out.xV.there _ _ (by simp;omega)) (by kernel_rfl) (by simp[Value.oneCell']) ?_;have aC:∃y,y=w4.setCells g (k*4) #[Value.int .u8 a0,.int .u8 a1,.int .u8 a2,.int .u8 a3].toList:=⟨_,rfl⟩;obtain⟨y,o⟩:=aC;have aE:Hid (y.heap[b]? = some (gC s ((M.ins s q R F L).1:Nat) f R L)):=by show _=_;rw[o,eU g b (by omega)];exact a5
    have J:Hid (w.grownBy y (some b)):=by show World.grownBy _ _ _;rw[o];exact gM g _ _ _ _ a4 (by omega)
    have aF:Hid (y.heap[w.heap.size]? = some (.cells #[.int .i64 0,.slice none 0 0] 178 (0,0))):=by show _=_;rw[o,eU g _ (by omega)];exact a7
    rw[<-o];clear o a5 a4 a7 W;obtain⟨aP,d0,d1,e0,e1⟩:=jF aF (ax y (some b)) aR;go_wp2_with fail
    refine da (v:=.tuple #[.agg #[.int .i64 0,.slice none 0 0],.bool false]) (by simp[results,results82,go_sem, *]) rfl ⟨?_,R,L,?_,?_⟩
    .rw[a6.out,HC.out];exact⟨_,_,_,_,rfl,λh=>by cases h⟩
    .rw[a6.out,HC.out];repeat (rw[af _ _ _ _ (by simp;omega)])
     exact aE
    repeat (refine bp ?_ (ab (by simp)) _)
    exact J
   have HC:Hid (M.code s R F L (M.ins s q R F L).1 (L-(k+1))=M.code s R F L (p+2) L):=by
    show _=_;rw[<-rC.out,show L-k=(L-(k+1))+1 by omega];conv=>rhs;unfold M.code
    rw[aj hok]
   have aT:=(M.yO (s:=s) (p:=q) (r:=R) (f:=F) (l:=L) hq).2;have aM:Hid ((M.ins s q R F L).2=true):=hok;have KQ:Hid ((M.ins s q R F L).1=p+2+4*(k+1)):=by
    show _=_;have:=M.vz hok;have:=rQ.out;omega
   clear rC hok;simp only[];iterate 13 (first|go_values|go_skip|go_guarded|go_step|go_upon|go_back)
   refine wpList_store_mid rfl 183 (.tmp 46) (.tmp 44) rfl g (k*4) #[.int .u8 a0,.int .u8 a1,.int .u8 a2,.int .u8 a3] rfl rfl (W.xV.there _ _ (by simp;omega)) (by kernel_rfl) (by simp[Value.oneCell']) ?_;have aC:∃y,y=w4.setCells g (k*4) #[Value.int .u8 a0,.int .u8 a1,.int .u8 a2,.int .u8 a3].toList:=⟨_,rfl⟩;obtain⟨y,o⟩:=aC;have aE:Hid (y.heap[b]? = some (gC s ((M.ins s q R F L).1:Nat) f R L)):=by show _=_;rw[o,eU g b (by omega)];exact a5
   have J:Hid (w.grownBy y (some b)):=by show World.grownBy _ _ _;rw[o];exact gM g _ _ _ _ a4 (by omega)
   have aF:Hid (y.heap[w.heap.size]? = some (.cells #[.int .i64 0,.slice none 0 0] 178 (0,0))):=by show _=_;rw[o,eU g _ (by omega)];exact a7
   have aK:Hid (mB y):=aL.kept J Y;have aV:Hid (Full y g 183 (L*4) ((k+1)*4) (oG s (p+2))):=by
    show Full _ _ _ _ _ _;rw[o,show(k+1)*4=k*4+4 by omega];obtain⟨rfl,rfl,rfl,rfl⟩:=HA aM;have aU:=rQ.out;refine W.I4 (by omega) _ _ _ _ ?_ ?_ ?_ ?_<;>(unfold oG;rw[aU];congr 3;omega)
   rw[<-o];clear o a5 a4 a7 W HA aM rQ;generalize (M.ins s q R F L).1=q' at *;go_wp2_with fail
   go_roundw
   case rel=>exact⟨k+1,q',by omega,aT,by go_num,aE,J,aF,aK,aV,KQ,HC⟩
   case measure=>simp[intOf];omega
  obtain rfl:k=L:=by omega
  have HC:Hid (M.code s R F k (p+2) k=(q,true)):=by
   show _=_;rw[<-rC.out,Nat.sub_self];rfl
  clear rC;obtain⟨aP,d0,d1,e0,e1⟩:=jF rR (ax wr (some b)) (by omega);obtain⟨_,_,_,x3,_⟩:=eR rB;go_wp2_with fail
  refine da (v:=.tuple #[.agg #[.int .i64 R,.slice (some ⟨g,0,none⟩) k k],.bool true]) (by simp[results,results82,go_sem, *]) rfl ⟨?_,R,k,?_,?_⟩
  .rw[a6.out,HC.out];refine⟨_,_,_,_,rfl,λ_=>⟨by rw[HR.out],by rw[HL.out],rfl,g,by omega,rfl,rW.block ?_⟩⟩;repeat (rw[af _ _ _ _ (by simp;omega)])
  .rw[a6.out,HC.out];repeat (rw[af _ _ _ _ (by simp;omega)])
   exact rB
  repeat (refine bp ?_ (ab (by simp)) _)
  exact rG
theorem vH(b:Nat)(s:ByteArray)(p:Nat)(f r l:Int)(w:World)(h:w.heap[b]? = some (gC s p f r l))(Y:p<=s.size)(o:M.tk s p 2 8=false): Calls prog 82 #[.pointer (some ⟨b,0,none⟩)] w λe w'=>Av s p w w' e false/\∃J G,w'.heap[b]? = some (gC s p f J G)/\w.grownBy w' (some b):=by
 have hb:=bz h;have H:Hid (w.heap[b]? = some (gC s p f r l)):=h;go_in;go_wp2_with fail
 refine(nz b s p 2 8 f r l _ _ _ (ky H _) Y rfl rfl o).mono ?_;rintro e w1 ⟨rfl,i,u⟩;have W:Hid (w1.heap[b]? = some (gC s p f r l)):=i;obtain⟨_,_,_,Z,_⟩:=eR i;obtain⟨_,_,y3,y4⟩:=gU i;obtain⟨y,d0,d1,e0,e1⟩:=jF (bf w (.cells #[.int .i64 0,.slice none 0 0] 178)) u (by omega);go_wp2_with fail
 refine da (v:=.tuple #[.agg #[.int .i64 0,.slice none 0 0],.bool false]) (by simp[results,results82,go_sem, *]) rfl ⟨⟨_,_,_,_,rfl,λh=>by cases h⟩,0,l,?_,?_⟩
 .repeat (rw[af _ _ _ _ (by simp;omega)])
  exact sG W _
 repeat (refine bp ?_ (by first|exact ag rfl|exact ab (by simp)) _)
 exact an (ah _ _ _) u
theorem vG(b:Nat)(s:ByteArray)(p:Nat)(f r l:Int)(w:World)(h:w.heap[b]? = some (gC s p f r l))(Y:s.size<=maxLen)(o:M.tk s p 2 8=true)(u:M.tk s (p+1) 1 200=false): Calls prog 82 #[.pointer (some ⟨b,0,none⟩)] w λe w'=>Av s p w w' e false/\∃r' l',w'.heap[b]? = some (gC s ((p+1:Nat):Int) f r' l')/\w.grownBy w' (some b):=by
 have hb:=bz h;have H:Hid (w.heap[b]? = some (gC s p f r l)):=h;have HS:Hid (s.size<=maxLen):=Y;have W:Hid (M.tk s p 2 8=true):=o;have J:Hid (M.tk s (p+1) 1 200=false):=u;obtain⟨hp,q1,q2⟩:=M.fK o;go_in;go_wp2_with fail
 refine(jH b s p 2 8 f r l _ _ _ (ky H _) HS rfl rfl W).mono ?_;rintro e w1 ⟨rfl,i,hg⟩;have HH:Hid (w1.heap[b]? = some (gC s ((p+1:Nat):Int) f r l)):=i;obtain⟨_,_,_,x3,_⟩:=eR i;obtain⟨_,_,y3,y4⟩:=gU i;generalize hR:M.bt s p=R at *;go_wp2_with fail
 refine(nz b s (p+1) 1 200 f R l _ _ _ (sG HH _) (by omega) rfl rfl J).mono ?_;rintro e w2 ⟨rfl,i,G⟩;have y:Hid (w2.heap[b]? = some (gC s ((p+1:Nat):Int) f R l)):=i;obtain⟨_,_,_,_,z4⟩:=eR i;obtain⟨_,_,_,u4⟩:=gU i;have Z:(w.alloc (.cells #[.int .i64 0,.slice none 0 0] 178)).grownBy w2 (some b):=an (bp hg (ag rfl) _) G;obtain⟨a0,d0,d1,e0,e1⟩:=jF (bf w (.cells #[.int .i64 0,.slice none 0 0] 178)) Z (by omega);go_wp2_with fail
 refine da (v:=.tuple #[.agg #[.int .i64 0,.slice none 0 0],.bool false]) (by simp[results,results82,go_sem, *]) rfl ⟨⟨_,_,_,_,rfl,λh=>by cases h⟩,R,0,?_,?_⟩
 .repeat (rw[af _ _ _ _ (by simp;omega)])
  exact wY y _
 repeat (refine bp ?_ (by first|exact ag rfl|exact ab (by simp)) _)
 exact an (ah _ _ _) Z
theorem tX(b:Nat)(s:ByteArray)(p F:Nat)(f r l:Int)(w:World)(h:w.heap[b]? = some (gC s p f r l))(y:s.size<=maxLen)(hp:p<=s.size)(u:b≠0)(G:mB w)(J:Hid (f=F))(Z:1<=F)(Y:F<=8): Calls prog 82 #[.pointer (some ⟨b,0,none⟩)] w λe w'=>Av s p w w' e (M.fn s p F).2/\∃W H,w'.heap[b]? = some (gC s ((M.fn s p F).1:Nat) f W H)/\w.grownBy w' (some b):=by
 by_cases i:M.tk s p 2 8=true
 .by_cases o:M.tk s (p+1) 1 200=true
  .exact vF b s p F f r l w h y u G J Z Y i o
  have e:M.fn s p F=(p+1,false):=by unfold M.fn;rw[aj i,aa o]
  rw[e];exact vG b s p f r l w h y i (by simpa using o)
 have e:M.fn s p F=(p,false):=by unfold M.fn;rw[aa i]
 rw[e];exact vH b s p f r l w h hp (by simpa using i)
theorem Tryz.Dr:(prog.info? 184).map (λi=>(i.zero,i.size,i.bytes))=some (some (.pointer none),1,8):=by kernel_rfl
theorem mf(j:Nat):eC (λ_=>((0,0):B.V)) j=.int .i64 0:=by unfold eC;split<;>rfl
theorem A7{w:World}{g b e:Nat}(h:w.ownsRow e 149 2 (.slice (some ⟨g,0,none⟩) b b) b (madeCells #[.int .i64 0,.int .i64 0] (b*2)).toList):Full w g 149 (b*2) (b*2) (eC (λ_=>(0,0))):=by
 rcases h.2 with⟨h,_⟩|⟨g',u,i,H,h2,Y,h4,Z,J,W⟩
 .cases h
 cases H;refine⟨i,Y,J,λj y=>?_⟩;have o:=congrArg (λl=>l[j]?) W;have G:(madeCells #[.int .i64 0,.int .i64 0] (b*2)).toList[j]? = some (.int .i64 0):=by
  simp only[madeCells,Array.getElem?_toList,Array.getElem?_map,Array.getElem?_range];rw[aj y];have:j % 2=0\/j % 2=1:=by omega
  rcases this with h|h<;>simp[h]
 simp only[G,dh]at o;rw[aj y]at o;rw[mf];simpa using o
theorem I1(v:B.V)(g c n:Nat)(ad:Option Addr)(xs:List B.V)(w:World)(hn:n=xs.length)(aA:n<=1000000000)(a2:∀j x,xs[j]? = some x->ad=some ⟨g,0,none⟩/\w.cell? ⟨g,j*2,none⟩=some (.int .i64 (x.1:Int))/\w.cell? ⟨g,j*2+1,none⟩=some (.int .i64 x.2))(lg:xs≠[]->g<w.heap.size): Calls prog 231 #[.slice ad n c,vA v] w λe w'=>(∃z:Int,e=.returned (.int .i64 z)/\((z<0/\v∉xs)\/(0<=z/\v∈xs)))/\w.grownBy w' none:=by
 obtain⟨y,u⟩:=v;have HC:=az a2;have HN:=az hn;have HG:=az lg;clear a2 hn lg;go_in;go_wp2_with fail
 generalize W:w.alloc (.cells #[.int .i64 (y:Int),.int .i64 u] 149)=w1;have KG:Hid (w.grownBy w1 none):=by rw[<-W];exact ah _ _ _
 have a3:w1.heap[w.heap.size]? = some (.cells #[.int .i64 (y:Int),.int .i64 u] 149 (0,0)):=by rw[<-W];exact bf w _
 have HB:=az a3;go_loopw [8] (λi wr=>∃j:Nat,i=.int .i64 j/\j<=n/\Hid (∀k x,k<j->xs[k]? = some x->x≠(y,u))/\Hid (w1.grownBy wr none)) (λi _=>n-(intOf i).toNat)
 case atStart=>exact⟨0,rfl,by omega,(λk x hk=>ch hk (by omega)),ax _ _⟩
 case round=>
  obtain⟨j,rfl,hj,rN,rG⟩:=hrel;by_cases aC:j<n
  .obtain⟨x,hx⟩:∃x,xs[j]? = some x:=⟨_,bn (by have:=HN.out;omega)⟩;obtain⟨H,J⟩:=x;obtain⟨rfl,ca,cb⟩:=HC.out j (H,J) hx;have Y:=ed hx;have a4:=HG.out (by intro e;rw[e]at Y;cases Y);have Z:=an KG.out rG.out;have c0:wr.cell? ⟨g,j*2,none⟩=some (.int .i64 (H:Int)):=(bh Z (a:=⟨g,j*2,none⟩) a4).1.trans ca;have c1:wr.cell? ⟨g,j*2+1,none⟩=some (.int .i64 J):=(bh Z (a:=⟨g,j*2+1,none⟩) a4).1.trans cb;have a0:=cm rG.out HB.out (by intro e;cases e);have b0:wr.cell? ⟨w.heap.size,0,none⟩=some (.int .i64 (y:Int)):=by simp[World.cell?,a0]
   have b1:wr.cell? ⟨w.heap.size,1,none⟩=some (.int .i64 u):=by simp[World.cell?,a0]
   have a9:(j:Int)<(n:Int):=by omega
   have a1:∀w0,(binOp .eql 149 (vA (y,u)) (vA (H,J))).run prog w0=.ok (.bool (decide ((y,u)=(H,J)))) w0:=λw0=>Lt (y,u) (H,J) w0;have HX:=az hx;by_cases o:((y,u):B.V)=(H,J)
   .have hd:decide (((y,u):B.V)=(H,J))=true:=by simpa using o
    rw[hd]at a1;have HV:=az o;go_wp2_with fail
    go_quiet (fail)
    go_wp2_with fail
    go_ret;refine⟨⟨(j:Int),rfl,ab ⟨by omega,?_⟩⟩,an KG.out (db rG.out _)⟩;rw[HV.out];exact Y
   have hd:decide (((y,u):B.V)=(H,J))=false:=by simpa using o
   rw[hd]at a1;have HV:=az o;go_wp2_with fail
   go_quiet (fail)
   go_wp2_with fail
   have a7:Hid (∀k x,k<j+1->xs[k]? = some x->x≠(y,u)):=λk x hk G e=>by
    by_cases a6:k=j
    .subst a6;rw[HX.out]at G;injection G with G;exact HV.out (by rw[G,e])
    exact rN.out k x (by omega) G e
   go_roundw
   case rel=>exact⟨j+1,by go_num,by omega,a7,db rG.out _⟩
   case measure=>simp[intOf];omega
  have a8:¬(j:Int)<(n:Int):=by omega
  go_wp2_with fail
  go_ret;refine⟨⟨-1,rfl,ag ⟨by omega,λhm=>?_⟩⟩,an KG.out rG.out⟩;obtain⟨k,hk⟩:=List.getElem?_of_mem hm;have aB:=(bu.1 hk).1;exact rN.out k _ (by have:=HN.out;omega) hk rfl
theorem uK(v:B.V)(g c n:Nat)(ad:Option Addr)(xs:List B.V)(w:World)(hn:n=xs.length)(Y:n<=1000000000)(y:∀j x,xs[j]? = some x->ad=some ⟨g,0,none⟩/\w.cell? ⟨g,j*2,none⟩=some (.int .i64 (x.1:Int))/\w.cell? ⟨g,j*2+1,none⟩=some (.int .i64 x.2))(lg:xs≠[]->g<w.heap.size): Calls prog 224 #[.slice ad n c,vA v] w λe w'=>e=.returned (.bool (decide (v∈xs)))/\w.grownBy w' none:=by
 have HI:Hid (∀w1,w.grownBy w1 none->Calls prog 231 #[.slice ad n c,vA v] w1 λe w'=>(∃z:Int,e=.returned (.int .i64 z)/\((z<0/\v∉xs)\/(0<=z/\v∈xs)))/\w1.grownBy w' none):=λw1 i=>by
  refine I1 v g c n ad xs w1 hn Y (λj x hx=>?_) (λh=>dm (lg h) i.size);obtain⟨a1,a2,a3⟩:=y j x hx;have u:=ed hx;have J:=lg (by intro e;rw[e]at u;cases u);exact⟨a1,(bh i (a:=⟨g,j*2,none⟩) J).1.trans a2,(bh i (a:=⟨g,j*2+1,none⟩) J).1.trans a3⟩
 clear y lg hn;obtain⟨v1,v2⟩:=v;go_in;go_wp2_with fail
 generalize o:w.alloc (.cells #[.int .i64 (v1:Int),.int .i64 v2] 149)=w1;have KG:Hid (w.grownBy w1 none):=by rw[<-o];exact ah _ _ _
 refine(HI.out w1 KG.out).mono ?_;rintro e w2 ⟨⟨z,rfl,hz⟩,i⟩;have G:=az (an KG.out i);rcases hz with⟨hz,H⟩|⟨hz,H⟩
 .have Z:=az H;have W:¬0<=z:=by omega
  go_wp2_with fail
  go_ret;exact⟨by simp[Z.out,W],G.out⟩
 have Z:=az H;go_wp2_with fail
 go_ret;exact⟨by simp[Z.out],G.out⟩
def fT(xs:List B.V):List Value:=xs.flatMap (λv=>[.int .i64 (v.1:Int),.int .i64 v.2])
theorem ui(x:B.V)(xs:List B.V):fT (x :: xs)=.int .i64 (x.1:Int) :: .int .i64 x.2 :: fT xs:=rfl
theorem jr:∀e,(fT e).length=e.length*2
 | []=>rfl
 | x :: e=>by rw[ui,List.length_cons,List.length_cons,jr e,List.length_cons];omega
theorem oY(xs ys:List B.V):fT (xs++ys)=fT xs++fT ys:=by simp[fT,List.flatMap_append]
theorem mJ:∀(xs:List B.V) (j:Nat) (x:B.V),xs[j]? = some x->(fT xs)[j*2]? = some (.int .i64 (x.1:Int))/\(fT xs)[j*2+1]? = some (.int .i64 x.2)
 | [],j,x,h=>by simp at h
 | y :: xs,0,x,h=>by
  simp at h;subst h
  exact⟨rfl,rfl⟩
 | y :: xs,j+1,x,h=>by
  have:=mJ xs j x (by simpa using h);rw[ui,show(j+1)*2=j*2+1+1 by omega];simpa using this
theorem zK{w:World}{o g n c:Nat}{xs:List B.V}(hb:o<=g)(hn:n<=c)(hm:c<=maxLen)(hl:xs.length=n)(Y:jB w g 149 (c*2))(hx:∀j x,xs[j]? = some x->w.cell? ⟨g,j*2,none⟩=some (.int .i64 (x.1:Int))/\w.cell? ⟨g,j*2+1,none⟩=some (.int .i64 x.2)):w.ownsRow o 149 2 (.slice (some ⟨g,0,none⟩) n c) n (fT xs):=by
 obtain⟨y,G,h2⟩:=Y;refine⟨by rw[jr,hl],ab ⟨g,c,y,rfl,hb,G,hn,hm,h2,?_⟩⟩;apply List.ext_getElem?
 intro i;by_cases hi:i<n*2
 .obtain⟨x,u⟩:∃x,xs[i / 2]? = some x:=⟨_,bn (by omega)⟩;obtain⟨H,J⟩:=hx (i / 2) x u;obtain⟨Z,W⟩:=mJ xs (i / 2) x u;rw[dh,aj hi];simp only[World.cell?,G]at H J;rcases(show i=i / 2*2\/i=i / 2*2+1 by omega) with e|e
  .rw[e,Z];simpa using H
  rw[e,W];simpa using J
 rw[cw (by simp;omega),cw (by rw[jr];omega)]
theorem ru{w:World}{e g n c:Nat}{xs:List B.V}(h:w.ownsRow e 149 2 (.slice (some ⟨g,0,none⟩) n c) n (fT xs)):e<=g/\n<=c/\c<=maxLen/\xs.length=n/\jB w g 149 (c*2)/\∀j x,xs[j]? = some x->w.cell? ⟨g,j*2,none⟩=some (.int .i64 (x.1:Int))/\w.cell? ⟨g,j*2+1,none⟩=some (.int .i64 x.2):=by
 rcases h with⟨hl,⟨h,_⟩|⟨g',c',i,J,h2,H,Z,Y,W,y⟩⟩
 .cases h
 cases J;rw[jr]at hl;refine⟨h2,Z,Y,by omega,⟨i,H,W⟩,λj x G=>?_⟩;have hj:=(bu.1 G).1;obtain⟨u,o⟩:=mJ xs j x G;rw[<-y,dh,aj (by omega)]at u;rw[<-y,dh,aj (by omega)]at o;simp only[World.cell?,H];exact⟨by simpa using u,by simpa using o⟩
def jE(sz:Nat)(v v':Value):Prop:=v'.ownBlock=v.ownBlock\/∃g,v'.ownBlock=some g/\sz<=g
theorem tV{P:Program}(w:World)(t ty e:TypeId)(i:TypeInfo)(z:Value)(size bytes:Nat)(ht:P.underlying t=some (.slice e))(hi:P.info? e=some i)(hz:i.zero=some z)(y:i.size=size)(a4:i.bytes=bytes)(a2:z.cells.size=size)(a5:0<size)(ao:Option Addr)(n cap:Nat)(xs:List Value)(a1:w.ownsRow 0 e size (.slice ao n cap) n xs)(ad:Addr)(m c:Nat)(o:List Value)(hl:o.length=m*size)(H:∀j u,o[j]? = some u->w.cell? (ad.add j)=some u)(h1:∀u∈o,u.oneCell'=true)(a3:n+m<=maxLen)(G:(n+m)*bytes<=140737488355328)(hm:0<m): ∃J w',(Builtin.append_ #[t,t] ty #[.slice ao n cap,.slice (some ad) m c]).run P w=.ok J w'/\w'.ownsRow 0 e size J (n+m) (xs++o)/\w.grownBy w' (Value.slice ao n cap).ownBlock/\jE w.heap.size (.slice ao n cap) J:=by
 have a0:∀(J:Value) (w':World),w'.ownsRow w.heap.size e size J (n+m) (xs++o)->∃g,J.ownBlock=some g/\w.heap.size<=g:=λJ w' h=>by
  obtain⟨g,c',rfl⟩:=dM h (by omega);exact⟨g,rfl,(dA h g rfl).1⟩
 rcases id a1 with⟨a7,⟨hv,h0⟩|⟨g,c',a8,hv,_,h2,h3,h4,h5,h6⟩⟩
 .injection hv with e1 e2 e3;subst e1 e2 e3;obtain rfl:xs=[]:=List.eq_nil_of_length_eq_zero (by simpa using a7);obtain⟨J,w',W,r1,r2,_⟩:=run_append_own (P:=P) w w.heap.size t ty e i z size bytes ht hi hz y a4 a2 a5 (.slice none 0 0) 0 [] (dJ w _ e size) ad m c o hl H h1 a3 G (bj _);exact⟨J,w',W,gw r1 (dc _),r2,ab (a0 J w' r1)⟩
 injection hv with e1 e2 e3;subst e1 e3;by_cases Y:n+m<=cap
 .obtain⟨J,w',hr,r1,r2,_⟩:=run_append_own (P:=P) w 0 t ty e i z size bytes ht hi hz y a4 a2 a5 _ n xs a1 ad m c o hl H h1 a3 G (dc _);refine⟨J,w',hr,r1,r2,ag ?_⟩;subst y;have Z:=run_append_room (P:=P) w t ty e i ht hi g n cap a8 h2 ad m c o hl H h1 Y (by rw[hl,h5,<-Nat.add_mul];exact Nat.mul_le_mul_right _ Y);rw[hr]at Z;injection Z with Z _;rw[Z];rfl
 have a9:∀j u,xs[j]? = some u->w.cell? ((⟨g,0,none⟩:Addr).add j)=some u:=λj u hu=>by
  have hj:j<n*size:=by
   have:=(bu.1 hu).1;omega
  rw[<-h6,dh,aj hj]at hu;have a6:w.cell? ⟨g,j,none⟩=some u:=by
   simp only[World.cell?,h2];simpa using hu
  cases j with
  | zero=>simpa[Addr.add] using a6
  | succ j=>simpa[Addr.add] using a6
 obtain⟨J,w',W,r1,r2⟩:=run_append_arg_grows (P:=P) w t ty e i z size bytes ht hi hz y a4 a2 a5 ⟨g,0,none⟩ n cap xs a7 a9 ad m c o hl H (by omega) a3 G;exact⟨J,w',W,gw r1 (dc _),mQ r2 g,ab (a0 J w' r1)⟩
theorem oW{P:Program}(w:World){o:Oper}{a:Act}{K:Act->World->Prop}{Q:Exit->Act->World->Prop}(s x:Operand)(t:TypeId)(ho:o.op=.call { callee:=.builtin .append,args:=#[s,x],argTypes:=#[t,t] })(e:TypeId)(i:TypeInfo)(z:Value)(size bytes:Nat)(ht:P.underlying t=some (.slice e))(hi:P.info? e=some i)(hz:i.zero=some z)(H:i.size=size)(a0:i.bytes=bytes)(a1:z.cells.size=size)(a3:0<size)(Y:Option Addr)(n cap:Nat)(xs:List Value)(hs:a.eval s=.slice Y n cap)(W:w.ownsRow 0 e size (.slice Y n cap) n xs)(ad:Addr)(m c:Nat)(y:List Value)(hx:a.eval x=.slice (some ad) m c)(hl:y.length=m*size)(J:∀j u,y[j]? = some u->w.cell? (ad.add j)=some u)(h1:∀u∈y,u.oneCell'=true)(a2:n+m<=maxLen)(G:(n+m)*bytes<=140737488355328)(hm:0<m)(h:∀Z w',w'.ownsRow 0 e size Z (n+m) (xs++y)->w.grownBy w' (Value.slice Y n cap).ownBlock->jE w.heap.size (.slice Y n cap) Z->K (a.put o.dst Z) w'):Oper.wp P o a w K Q:=by
 obtain⟨Z,w',hr,h2,h3,h4⟩:=tV (P:=P) w t o.type e i z size bytes ht hi hz H a0 a1 a3 Y n cap xs W ad m c y hl J h1 a2 G hm;unfold Oper.wp execOp;simp only[ho,resolve,invoke,builtin,Sem.run_bind,Sem.run_pure,Result.andThen_ok,List.map_toArray,List.map_cons,List.map_nil,hs,hx,hr];exact h Z w' h2 h3 h4
theorem eS{P:Program}(w:World){ops:Array Oper}{o:Oper}{a:Act}{K:Act->World->Prop}{Q:Exit->Act->World->Prop}{E:Prop}(a0:o.guard=none)(s x:Operand)(t:TypeId)(ho:o.op=.call { callee:=.builtin .append,args:=#[s,x],argTypes:=#[t,t] })(e:TypeId)(i:TypeInfo)(z:Value)(size bytes:Nat)(ht:P.underlying t=some (.slice e))(hi:P.info? e=some i)(hz:i.zero=some z)(H:i.size=size)(Z:i.bytes=bytes)(a1:z.cells.size=size)(a3:0<size)(Y:Option Addr)(n cap:Nat)(xs:List Value)(hs:a.eval s=.slice Y n cap)(W:w.ownsRow 0 e size (.slice Y n cap) n xs)(ad:Addr)(m c:Nat)(y:List Value)(hx:a.eval x=.slice (some ad) m c)(hl:y.length=m*size)(J:∀j u,y[j]? = some u->w.cell? (ad.add j)=some u)(h1:∀u∈y,u.oneCell'=true)(a2:n+m<=maxLen)(G:(n+m)*bytes<=140737488355328)(hm:0<m)(h:∀v' w',w'.ownsRow 0 e size v' (n+m) (xs++y)->w.grownBy w' (Value.slice Y n cap).ownBlock->jE w.heap.size (.slice Y n cap) v'->K (a.put o.dst v') w'): if Region.wanted o (yielded ops a.tmps)=true then Oper.wp P o a w K Q else E:=by
 rw[aj (by simp[Region.wanted,a0])];exact oW w s x t ho e i z size bytes ht hi hz H Z a1 a3 Y n cap xs hs W ad m c y hx hl J h1 a2 G hm h
theorem gK{P:Program}{w:World}{ops:Array Oper}{rest:List Oper}{o:Oper}{a:Act}{Q:Exit->Act->World->Prop}(a1:o.guard=none)(s x:Operand)(t:TypeId)(ho:o.op=.call { callee:=.builtin .append,args:=#[s,x],argTypes:=#[t,t] })(e:TypeId)(i:TypeInfo)(z:Value)(size bytes:Nat)(ht:P.underlying t=some (.slice e))(hi:P.info? e=some i)(hz:i.zero=some z)(H:i.size=size)(a0:i.bytes=bytes)(a2:z.cells.size=size)(a4:0<size)(Y:Option Addr)(n cap:Nat)(xs:List Value)(hs:a.eval s=.slice Y n cap)(W:w.ownsRow 0 e size (.slice Y n cap) n xs)(ad:Addr)(m c:Nat)(y:List Value)(hx:a.eval x=.slice (some ad) m c)(hl:y.length=m*size)(J:∀j u,y[j]? = some u->w.cell? (ad.add j)=some u)(h1:∀u∈y,u.oneCell'=true)(a3:n+m<=maxLen)(G:(n+m)*bytes<=140737488355328)(hm:0<m)(h:∀Z w',w'.ownsRow 0 e size Z (n+m) (xs++y)->w.grownBy w' (Value.slice Y n cap).ownBlock->jE w.heap.size (.slice Y n cap) Z->wpList P ops Q rest (a.put o.dst Z) w'):wpList P ops Q (o :: rest) a w:=
 wpList_plain a1 λ_ hK=>oW w s x t ho e i z size bytes ht hi hz H a0 a2 a4 Y n cap xs hs W ad m c y hx hl J h1 a3 G hm λZ w' h2 h3 h4=>hK _ _ (h Z w' h2 h3 h4)
theorem IU(eb tb kind t:Nat)(x:Int)(ad:Option Addr)(n cap:Nat)(ev:List se)(E Tk:Nat->Value)(w:World)(Y:Full w eb 144 44 44 E)(G:E 43=.slice ad n cap)(hT:Full w tb 160 7 7 Tk)(W:Tk 0=.int .i64 t)(i:w.ownsRow 0 48 3 (.slice ad n cap) n (kE ev))(hn:n<=100000): Calls prog 173 #[P0 eb,.int .i64 kind,P0 tb,.int .i64 x] w λe w'=>e=.returned (.tuple #[])/\∃g c,w'.ownsRow 0 48 3 (.slice (some ⟨g,0,none⟩) (n+1) c) (n+1) (kE (ev++[(kind,t,x)]))/\Full w' eb 144 44 44 (ep E 43 (.slice (some ⟨g,0,none⟩) (n+1) c))/\dy (λk=>k=eb\/(Value.slice ad n cap).ownBlock=some k) w w'/\((Value.slice ad n cap).ownBlock=some g\/w.heap.size<=g):=by
 obtain⟨i0,hi,a5,a2,a1⟩:=info_parts Tryz.yP;obtain⟨a6,aB⟩:=Y.cells 43 (by omega);have c0:=hT.cell 0 (by omega);rw[G]at a6;rw[W]at c0;have le:=Y.lt;have HE:Hid (Full w eb 144 44 44 E):=Y;have HO:Hid (w.ownsRow 0 48 3 (.slice ad n cap) n (kE ev)):=i;have J:∀k,(Value.slice ad n cap).ownBlock=some k->k≠eb/\k<w.heap.size:=λk J=>⟨eL i Y (by decide) k J,(dA i k J).2.1⟩;have HK:=az J;clear Y hT i G W J;have hX:kE (ev++[(kind,t,x)])=kE ev++[.int .i64 kind,.int .i64 t,.int .i64 x]:=by rw[Fm];rfl
 rw[hX];clear hX;generalize kE ev=L at *;go_in;go_wp2_with fail
 go_region_law (refine eS _ rfl (.tmp 12) (.tmp 20) 45 rfl 48 i0 _ 3 24 underlying45 hi a5 a2 a1 rfl (by decide) ad n cap L (by first|rfl|simp[Act.eval,Act.put]) (dD HO (λk h=>ak _ _ _ (HK k h).2)) ⟨w.heap.size,0,none⟩ 1 1 [.int .i64 kind,.int .i64 t,.int .i64 x] (by first|rfl|simp[Act.eval,Act.put]) rfl (by intro j u o;match j,o with|0,o=>(simp at o;subst o;simp[Addr.add,go_sem])|1,o=>(simp at o;subst o;simp[Addr.add,go_sem])|2,o=>(simp at o;subst o;simp[Addr.add,go_sem])) (by simp[Value.oneCell']) (by unfold maxLen;omega) (by omega) (by decide) ?_;intro v' w6 ho H a0;obtain⟨g,c,rfl⟩:=dM ho (by omega);have a4:Hid ((Value.slice ad n cap).ownBlock=some g\/w.heap.size<=g):=(by rcases a0 with h|⟨g',h,hl⟩;exact ag h.symm;exact ab (by have e:g=g':=(by injection h);simp at hl;omega));clear a0;have Z:=az ho;have y:Hid (Full w6 eb 144 44 44 E):=(HE.block (ak _ _ _ le)).block (H.block eb (by simp;omega) (λh=>(HK eb h.symm).1 rfl));have a7:Hid (dy (λk=>k=eb\/(Value.slice ad n cap).ownBlock=some k) w w6):=dy.trans (S1:=λk=>(Value.slice ad n cap).ownBlock=some k) (gF (dk _ w) _) ⟨H.os,H.tape,H.output,H.size,λk J hn=>H.block k J (λe=>hn e.symm)⟩ (λk h _=>ab h);obtain⟨a3,a9⟩:=y.cells 43 (by omega);clear ho H)
 all_goals
  go_wp2_with fail
  go_end0;refine⟨rfl,g,c,dD Z (λk h=>?_),y.ep 43 _,bm a7 (ag (ag rfl)) _,a4⟩;exact af _ _ _ _ (eL Z y (by decide) k h)
def xO(s:ByteArray)(gs:Nat->Nat):Nat->Value:=λj=>
 if j % 2=0 then .int .i64 (M.bt s (M.pos s (j / 2)):Int) else .slice (some ⟨gs (j / 2),0,none⟩) (M.bt s (M.pos s (j / 2)+1)) (M.bt s (M.pos s (j / 2)+1))
def rZ(w:World)(s:ByteArray)(z g n m:Nat):Prop:=z<=g/\∃gs:Nat->Nat,Full w g 178 (n*2) (m*2) (xO s gs) /\
 ∀k,k<m->g<gs k/\2<=M.bt s (M.pos s k)/\M.bt s (M.pos s k)<=8/\1<=M.bt s (M.pos s k+1)/\M.bt s (M.pos s k+1)<=200/\Full w (gs k) 183 (M.bt s (M.pos s k+1)*4) (M.bt s (M.pos s k+1)*4) (oG s (M.pos s k+2))
theorem rZ.below{w w':World}{s:ByteArray}{z g n m:Nat}(h:rZ w s z g n m)(o:∀k,z<=k->k<w.heap.size->w'.heap[k]? = w.heap[k]?):rZ w' s z g n m:=by
 obtain⟨i,gs,u,G⟩:=h;refine⟨i,gs,u.block (o g i u.lt),λk y=>?_⟩;obtain⟨a,b,c,d,e,f⟩:=G k y;exact⟨a,b,c,d,e,f.block (o _ (by omega) f.lt)⟩
theorem rZ.kept{w w':World}{s:ByteArray}{z g n m b:Nat}(h:rZ w s z g n m)(o:w.grownBy w' (some b))(y:b<z):rZ w' s z g n m:=
 h.below (λk u i=>o.block k i (by intro e;injection e;omega))
theorem rZ.start{w:World}{s:ByteArray}{z g n:Nat}(hz:z<=g)(h:jB w g 178 (n*2)):rZ w s z g n 0:=
 ⟨hz,λ_=>0,h.full _,λk e=>ch e (Nat.not_lt_zero k)⟩
theorem rZ.xV{w:World}{s:ByteArray}{z g n m:Nat}(h:rZ w s z g n m):jB w g 178 (n*2):=by obtain⟨_,_,h,_⟩:=h;exact h.xV
theorem rZ.more{w:World}{s:ByteArray}{z g n m g':Nat}(h:rZ w s z g n m)(hm:m<n)(Z:g<g')(o:2<=M.bt s (M.pos s m)/\M.bt s (M.pos s m)<=8/\1<=M.bt s (M.pos s m+1)/\M.bt s (M.pos s m+1)<=200)(H:Full w g' 183 (M.bt s (M.pos s m+1)*4) (M.bt s (M.pos s m+1)*4) (oG s (M.pos s m+2))): rZ (w.setCells g (m*2) [.int .i64 (M.bt s (M.pos s m):Int),.slice (some ⟨g',0,none⟩) (M.bt s (M.pos s m+1)) (M.bt s (M.pos s m+1))]) s z g n (m+1):=by
 obtain⟨h0,gs,W,J⟩:=h;have i:Full w g 178 (n*2) (m*2) (xO s (λj=>if j=m then g' else gs j)):=by
  obtain⟨u,c1,Y,G⟩:=W;refine⟨u,c1,Y,λj y=>?_⟩;rw[G j y];unfold xO;have:j / 2≠m:=by omega
  simp only[aa this]
 refine⟨h0,λj=>if j=m then g' else gs j,?_,λk hk=>?_⟩
 .rw[show(m+1)*2=m*2+2 by omega];refine i.I5 (by omega) _ _ ?_ ?_
  .unfold xO;rw[aj (by omega),show m*2 / 2=m by omega]
  unfold xO;rw[aa (by omega),show(m*2+1) / 2=m by omega];simp
 by_cases e:k=m
 .subst e;simp only[aj];refine⟨Z,o.1,o.2.1,o.2.2.1,o.2.2.2,H.block (eU g g' (by omega) _ _ _)⟩
 simp only[aa e];obtain⟨a,b,c,d,e',f⟩:=J k (by omega);exact⟨a,b,c,d,e',f.block (eU g _ (by omega) _ _ _)⟩
def D6(s:ByteArray)(w w':World)(e:Ending)(ok:Bool):Prop:=∃(ad:Option Addr) (n c:Nat),e=.returned (.tuple #[.slice ad n c,.bool ok]) /\
 (ok=true->n=M.bt s 0/\c=n/\1<=n/\n<=8/\∃g,ad=some ⟨g,0,none⟩/\rZ w' s w.heap.size g n n)
theorem Tryz.Fa:(prog.info? 178).map (λi=>(i.zero,i.size,i.bytes))=some (some (.agg #[.int .i64 0,.slice none 0 0]),2,32):=by kernel_rfl
theorem yE(b:Nat)(s:ByteArray)(f r l:Int)(w:World)(h:w.heap[b]? = some (gC s (0:Nat) f r l))(ht:M.tk s 0 1 8=false): Calls prog 56 #[.pointer (some ⟨b,0,none⟩)] w λe w'=>D6 s w w' e false/\∃y u o,w'.heap[b]? = some (gC s (0:Nat) y u o)/\w.grownBy w' (some b):=by
 go_in;have H:Hid (w.heap[b]? = some (gC s (0:Nat) f r l)):=h;go_wp2_with fail
 refine(nz b s 0 1 8 f r l _ _ _ H (by omega) rfl rfl ht).mono ?_;rintro e w1 ⟨rfl,i,J⟩;have G:Hid (w1.heap[b]? = some (gC s (0:Nat) f r l)):=i;go_wp2_with fail
 go_ret2
 exact⟨⟨_,_,_,rfl,λh=>by cases h⟩,f,r,l,G,J⟩
theorem wZ(b:Nat)(s:ByteArray)(f r l:Int)(w:World)(h:w.heap[b]? = some (gC s (0:Nat) f r l))(hs:s.size<=maxLen)(aC:b≠0)(hT:mB w)(ht:M.tk s 0 1 8=true): Calls prog 56 #[.pointer (some ⟨b,0,none⟩)] w λe w'=>D6 s w w' e (M.jO s).2/\∃f' r' l',w'.heap[b]? = some (gC s ((M.jO s).1:Nat) f' r' l')/\w.grownBy w' (some b):=by
 have hb:=bz h;have aO:s.size<=9223372036854775807:=by unfold maxLen at hs;omega
 have H:Hid (w.heap[b]? = some (gC s (0:Nat) f r l)):=h;have HS:Hid (s.size<=maxLen):=hs;have HT:Hid (M.tk s 0 1 8=true):=ht;have aL:Hid (mB w):=hT;obtain⟨hp,q1,q2⟩:=M.fK ht;clear h hs ht hT;go_in;go_wp2_with fail
 refine(jH b s 0 1 8 f r l _ _ _ H.out HS.out rfl rfl HT.out).mono ?_;rintro e w1 ⟨rfl,hh,hg⟩;have HH:Hid (w1.heap[b]? = some (gC s ((0+1:Nat):Int) f r l)):=hh;obtain⟨_,_,x2,_,_⟩:=eR hh;obtain⟨_,y2,_,_⟩:=gU hh;clear hh;generalize hF:M.bt s 0=F at *;have HF:Hid (M.bt s 0=F):=hF;clear hF;obtain⟨i0,hi,aH,aF,aD⟩:=info_parts Tryz.Fa;go_wp2_with (at_make;refine wpList_make_full _ rfl _ _ 92 rfl 0 178 i0 _ 2 underlying92 hi aH aF _ _ _ _ F rfl rfl rfl rfl (by rw[aD];omega) (by unfold maxLen;omega) (dc _) ?_)
 intro w3 a0 a7;have u:(w1.setCell ⟨b,2,none⟩ (.int .i64 F)).grownBy w3 (some b):=eD a7;have gA:w.grownBy (w1.setCell ⟨b,2,none⟩ (.int .i64 F)) (some b):=bp hg (ag rfl) _;have KB:Hid (w3.heap[b]? = some (gC s ((1:Nat):Int) F r l)):=by
  show _=_;rw[a7.block b (by have:=bz HH.out;simpa[World.setCell] using this) (by intro e;cases e)];exact CD HH.out _
 have KG:Hid (w.grownBy w3 (some b)):=an gA u;have aK:w.heap.size<=w1.heap.size:=hg.size;have KW:Hid (rZ w3 s w.heap.size w1.heap.size F 0):=rZ.start aK (jB.owned a0);clear a0 a7 u gA HH x2 y2 hg;generalize w1.heap.size=g at *;have y:Hid (M.jO s=((M.fns s F 1 F).1,(M.fns s F 1 F).2 && decide ((M.fns s F 1 F).1=s.size))):=by
  show _=_;unfold M.jO;rw[aj HT.out,HF.out]
 go_wp2_with fail
 go_loopw [23] (λi wr=>∃(k q:Nat) (r' l':Int),k<=F/\q<=s.size/\i=.int .i64 k/\Hid (wr.heap[b]? = some (gC s q F r' l'))/\Hid (w.grownBy wr (some b))/\Hid (rZ wr s w.heap.size g F k)/\Hid (q=M.pos s k)/\Hid (M.fns s F q (F-k)=M.fns s F 1 F)) (λi _=>F-(intOf i).toNat)
 case atStart=>exact⟨0,1,r,l,by omega,by omega,rfl,KB,KG,KW,rfl,rfl⟩
 case round=>
  obtain⟨k,q,r',l',hk,hq,rfl,rB,rG,rW,rQ,rC⟩:=hrel;clear KB KG KW;by_cases aG:k<F
  .go_wp2_with fail
   refine(tX b s q F F r' l' _ rB.out HS.out hq aC (aL.out.kept rG.out aC) rfl q1 q2).mono ?_;rintro e w4 ⟨⟨x,ad,n,c,rfl,hA⟩,r4,l4,hh,u⟩;have aE:g<wr.heap.size:=rW.out.xV.lt;have HA:Hid ((M.fn s q F).2=true->x=(M.bt s q:Int)/\n=M.bt s (q+1)/\c=n/\∃g',g<g'/\ad=some ⟨g',0,none⟩/\Full w4 g' 183 (n*4) (n*4) (oG s (q+2))):=λh=>by
    obtain⟨a1,a2,a3,g',a4,a5,a6⟩:=hA h;exact⟨a1,a2,a3,g',by omega,a5,a6⟩
   clear hA aE;have G:Hid (rZ w4 s w.heap.size g F k):=rW.out.kept u hb;have Z:Hid (w4.heap[b]? = some (gC s ((M.fn s q F).1:Nat) F r4 l4)):=hh;have W:Hid (w.grownBy w4 (some b)):=an rG.out u;clear hh u rB rG rW
   cases hok:(M.fn s q F).2
   .have Y:Hid (M.fns s F 1 F=((M.fn s q F).1,false)):=by
     show _=_;rw[<-rC.out,show F-k=(F-(k+1))+1 by omega];unfold M.fns;rw[aa (by rw[hok];simp)]
    clear rC hok;simp only[];iterate 13 (first|go_values|go_skip|go_guarded|go_step|go_upon|go_back)
    refine wpList_store_mid rfl 178 (.tmp 33) (.tmp 31) rfl g (k*2) #[.int .i64 x,.slice ad n c] rfl rfl (G.out.xV.there _ _ (by simp;omega)) (by kernel_rfl) (by simp[Value.oneCell']) ?_;have a9:∃J,J=w4.setCells g (k*2) #[Value.int .i64 x,.slice ad n c].toList:=⟨_,rfl⟩;obtain⟨J,o⟩:=a9;have aA:Hid (J.heap[b]? = some (gC s ((M.fn s q F).1:Nat) F r4 l4)):=by show _=_;rw[o,eU g b (by omega)];exact Z.out
    have a8:Hid (w.grownBy J (some b)):=by show World.grownBy _ _ _;rw[o];exact gM g _ _ _ _ W (by omega)
    rw[<-o];clear o Z W G;go_wp2_with fail
    go_ret2
    refine⟨?_,F,r4,l4,?_,a8⟩
    .rw[y.out,Y.out];exact⟨_,_,_,rfl,λh=>by cases h⟩
    rw[y.out,Y.out];exact aA
   have Y:Hid (M.fns s F (M.fn s q F).1 (F-(k+1))=M.fns s F 1 F):=by
    show _=_;rw[<-rC.out,show F-k=(F-(k+1))+1 by omega];conv=>rhs;unfold M.fns
    rw[aj hok]
   have aI:=(M.JB (s:=s) (p:=q) (f:=F) hq).2;have aB:Hid ((M.fn s q F).2=true):=hok;have KQ:Hid ((M.fn s q F).1=M.pos s (k+1)):=by
    show _=_;rw[(M.tw hok).1,rQ.out,M.pos]
   clear rC hok;simp only[];iterate 13 (first|go_values|go_skip|go_guarded|go_step|go_upon|go_back)
   refine wpList_store_mid rfl 178 (.tmp 33) (.tmp 31) rfl g (k*2) #[.int .i64 x,.slice ad n c] rfl rfl (G.xV.there _ _ (by simp;omega)) (by kernel_rfl) (by simp[Value.oneCell']) ?_;have a9:∃J,J=w4.setCells g (k*2) #[Value.int .i64 x,.slice ad n c].toList:=⟨_,rfl⟩;obtain⟨J,o⟩:=a9;have aA:Hid (J.heap[b]? = some (gC s ((M.fn s q F).1:Nat) F r4 l4)):=by show _=_;rw[o,eU g b (by omega)];exact Z
   have a8:Hid (w.grownBy J (some b)):=by show World.grownBy _ _ _;rw[o];exact gM g _ _ _ _ W (by omega)
   have aN:Hid (rZ J s w.heap.size g F (k+1)):=by
    show rZ _ _ _ _ _ _;obtain⟨a1,a2,a3,g',a4,a5,a6⟩:=HA aB;have aM:=rQ.out;have hy:=M.tw aB;rw[aM]at a1 a2 a6 hy;subst a1 a3 a5;rw[a2]at a6;rw[o,a2];exact G.more aG a4 hy.2 a6
   rw[<-o];clear o Z W G HA aB rQ;generalize (M.fn s q F).1=q' at *;go_wp2_with fail
   go_roundw
   case rel=>exact⟨k+1,q',r4,l4,by omega,aI,by go_num,aA,a8,aN,KQ,Y⟩
   case measure=>simp[intOf];omega
  obtain rfl:k=F:=by omega
  have Y:Hid (M.fns s k 1 k=(q,true)):=by
   show _=_;rw[<-rC.out,Nat.sub_self];rfl
  clear rC;obtain⟨x0,x1,_,_,_⟩:=eR rB;by_cases he:q=s.size
  .have aJ:((q:Int) == (s.size:Int))=true:=by simp;omega
   have HE:Hid (q=s.size):=he;clear he;go_wp2_with fail
   go_quiet (fail)
   go_wp2_with fail
   go_ret2
   refine⟨?_,k,r',l',?_,db rG _⟩
   .rw[y.out,Y.out,HE.out];simp;exact⟨_,_,_,rfl,λ_=>⟨by rw[HF.out],rfl,q1,q2,g,rfl,rW.below (λ_ _ _=>rfl)⟩⟩
   rw[y.out,Y.out];exact rB
  have aJ:((q:Int) == (s.size:Int))=false:=by simp;omega
  go_wp2_with fail
  go_quiet (fail)
  go_wp2_with fail
  go_ret2
  refine⟨?_,k,r',l',?_,db rG _⟩
  .rw[y.out,Y.out];simp[he];exact⟨_,_,_,rfl,λh=>by cases h⟩
  rw[y.out,Y.out];exact rB
theorem xd(b:Nat)(s:ByteArray)(f r l:Int)(w:World)(h:w.heap[b]? = some (gC s (0:Nat) f r l))(G:s.size<=maxLen)(i:b≠0)(y:mB w): Calls prog 56 #[.pointer (some ⟨b,0,none⟩)] w λe w'=>D6 s w w' e (M.jO s).2/\∃u o H,w'.heap[b]? = some (gC s ((M.jO s).1:Nat) u o H)/\w.grownBy w' (some b):=by
 by_cases ht:M.tk s 0 1 8=true
 .exact wZ b s f r l w h G i y ht
 have e:M.jO s=(0,false):=by unfold M.jO;rw[aa ht]
 rw[e];exact yE b s f r l w h (by simpa using ht)
def B.iz(c t:Int):Int:=if t<=0 then c else if t<=9223372036854775807-c then c+t else 9223372036854775807
theorem B.vU{c t:Int}(e:0<=c)(i:c<=9223372036854775807):0<=B.iz c t/\B.iz c t<=9223372036854775807:=by
 unfold B.iz;split
 .omega
 split<;>omega
theorem BB(eb:Nat)(c t:Int)(w:World)(h:w.cell? ⟨eb,28,none⟩=some (.int .i64 c))(Z:0<=c)(Y:c<=9223372036854775807): Calls prog 64 #[P0 eb,.int .i64 t] w λe w'=>e=.returned (.int .i64 (B.iz c t))/\w'=w:=by
 generalize J:B.iz c t=y;have o:=az J;have W:IntKind.i64.wrap (9223372036854775807-c)=9223372036854775807-c:=by simp[IntKind.wrap,IntKind.bits,IntKind.signed];omega
 by_cases ht:t<0
 .have i:y=c:=by rw[<-o.out];unfold B.iz;rw[aj (by omega)]
  subst i
  have u:¬(9223372036854775807-y<0):=by omega
  go_in;go_wp2_with fail
  go_ret;exact⟨rfl,rfl⟩
 by_cases H:t<=9223372036854775807-c
 .have i:c+t=y:=by
   rw[<-o.out];unfold B.iz
   by_cases h:t<=0
   .rw[aj h];omega
   rw[aa h,aj H]
  have u:¬(9223372036854775807-c<t):=by omega
  have G:IntKind.i64.wrap (c+t)=c+t:=by simp[IntKind.wrap,IntKind.bits,IntKind.signed];omega
  go_in;go_wp2_with fail
  go_ret;exact⟨by rw[<-i];rfl,rfl⟩
 have i:c+(9223372036854775807-c)=y:=by
  rw[<-o.out];unfold B.iz
  rw[aa (by omega),aa H];omega
 have u:9223372036854775807-c<t:=by omega
 go_in;go_wp2_with fail
 go_ret;exact⟨by rw[<-i];rfl,rfl⟩
theorem EO(op a b c fb tb eb:Nat)(x:Int)(w:World)(h:w.cell? ⟨eb,28,none⟩=some (.int .i64 x))(le:eb<w.heap.size): Calls prog 117 #[dZ op a b c fb tb eb] w λe w'=>e=.returned (vA (0,x))/\w.grownBy w' none:=by
 have i:eb<w.heap.size+1:=by omega
 go_in;go_wp2_with fail
 refine(fH x _).mono ?_;rintro e w2 ⟨rfl,rfl⟩;go_wp2_with fail
 refine da (v:=vA (0,x)) (by simp[results,results117,go_sem]) rfl ⟨rfl,?_⟩;repeat (first|exact ax _ _|refine au ?_ _|refine bp ?_ (ab (by simp)) _)
end
section
open Go.ChangeShapes Go.WideShapes Go.ChangeAt Go.WideMaps Go.WideElems Go.Joins
theorem Ko{c:Int}(h:(Lit.int .i64 c).wf=true):-9223372036854775808<=c/\c<=9223372036854775807:=by
 have e:IntKind.i64.min<=c/\c<=IntKind.i64.max:=by simpa[Lit.wf] using h
 exact⟨e.1,e.2⟩
theorem own:ownKnob prog.godebug=none:=by kernel_rfl
theorem Lm:prog.globalNamed (Rows.chainRow.named.headD "")=some 0:=by kernel_rfl
theorem Kr:(prog.globals[0]?).map (·.type)=some 283:=by kernel_rfl
theorem Ic:prog.cellsOf 9=1:=by kernel_rfl
theorem EW:(Rows.laid_turnstile_code_operandKinds:DataW Unit)=.agg ((List.range 23).map λi=>.lit (.string (M.KS i).data.toList)):=by rfl
theorem wI{W:World}(h:laidMetH prog Rows.chainRow.laid W):mB W:=by
 rw[MakeChecks.laidMetH_plain _ _ _ (by kernel_rfl)]at h;obtain⟨ps,⟨g0,t0,a3,f0,p0,q0,u,a1,J,Y,_,_⟩,_,_⟩:=h;obtain rfl:0=g0:=g8 (Lm.symm.trans u);obtain rfl:283=t0:=g8 (Kr.symm.trans a1);obtain⟨Z,m1,rfl,G,a2,a4,a0⟩:=DataW.trod_array underlying283 Y;simp only[Prod.mk.injEq]at G;have y:∀e,e<23->W.cell? ⟨0,e,none⟩=some (.string (M.KS e)):=by
  intro e ho;have h1:=a0 e ho;have o:Z[e]? = some (Z[e]'(by omega)):=bn (by omega);rw[o,Ic]at h1;obtain⟨S,e1,e2,_⟩:=DataW.trod_string underlying9 h1;have hS:S=M.KS e:=by
   have e3:=EW.symm.trans G.1;simp only[DataW.agg.injEq]at e3;have H:=congrArg (λl=>l[e]?) e3;simp only[eo,fW ho,o,Option.map_some,Option.some.injEq]at H;rw[e2]at H;simp only[DataW.lit.injEq,Lit.string.injEq]at H;have e5:=Array.toList_inj.1 H
   cases S;cases hk:M.KS e
   rw[hk]at e5;exact congrArg ByteArray.mk e5.symm
  rw[World.var?_cell u J e,<-hS];rw[Nat.mul_one]at e1;have e6:=congrArg (λl=>l[0]?) e1;simpa[dh,List.getElem?_drop] using e6
 refine⟨?_,y⟩;have:=y 0 (by omega);exact av W ⟨0,0,none⟩ this
theorem Tryz.laidOut:laidOutB prog=true:=by kernel_rfl
