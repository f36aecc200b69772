import Derived.Test.YtnjiinbhbjpfkaaGreatDoorKD
import Derived.Test.YtnjiinbhbjpfkaaGreatDoorKE
set_option maxRecDepth 100000
set_option maxHeartbeats 0
set_option linter.all false
namespace Go.Proofs.YtnjiinbhbjpfkaaGreatDoor
open Go.RowKit Go.Proofs.Tryz
section
theorem B9(b:Nat)(s:ByteArray)(f r l i hi:Int)(w:World)(h:w.heap[b]? = some (gC s s.size f r l)): Calls prog 81 #[.pointer (some ⟨b,0,none⟩),.int .i64 i,.int .i64 hi] w λe w'=>e=.returned (.tuple #[.int .i64 0,.bool false])/\∃n,w'=w.drewN n:=by
 obtain⟨c0,c1,_,_,_⟩:=eR h;go_in;go_wp2
 go_quiet (fail)
 go_wp2
 go_ret2
 exact⟨rfl,_,rfl⟩
theorem B8(b:Nat)(s:ByteArray)(p:Nat)(f r l i hi x:Int)(w:World)(h:w.heap[b]? = some (gC s p f r l))(y:s.size<=maxLen)(W:p<s.size)(hx:Hid (x=(s[p].toNat:Int)))(u:i<=x)(H:x<=hi): Calls prog 81 #[.pointer (some ⟨b,0,none⟩),.int .i64 i,.int .i64 hi] w λe w'=>e=.returned (.tuple #[.int .i64 x,.bool true])/\∃n,w'=(w.drewN n).setCell ⟨b,1,none⟩ (.int .i64 (p+1)):=by
 unfold maxLen at y;obtain⟨c0,c1,_,_,_⟩:=eR h;obtain⟨J,_⟩:=gU h;have G:((p:Int) == (s.size:Int))=false:=by simp;omega
 have o:s[p].toNat<256:=eI _;rw[hx.out]at u H ⊢;go_in;go_wp2
 go_quiet (fail)
 go_wp2
 go_quiet (fail)
 go_wp2
 go_ret2
 exact⟨rfl,_,rfl⟩
theorem En(b:Nat)(s:ByteArray)(p:Nat)(f r l i hi x:Int)(w:World)(h:w.heap[b]? = some (gC s p f r l))(H:p<s.size)(hx:Hid (x=(s[p].toNat:Int)))(u:x<i\/hi<x): Calls prog 81 #[.pointer (some ⟨b,0,none⟩),.int .i64 i,.int .i64 hi] w λe w'=>e=.returned (.tuple #[.int .i64 0,.bool false])/\∃n,w'=w.drewN n:=by
 obtain⟨c0,c1,_,_,_⟩:=eR h;have y:((p:Int) == (s.size:Int))=false:=by simp;omega
 have o:s[p].toNat<256:=eI _;rw[hx.out]at u;by_cases G:(s[p].toNat:Int)<i
 all_goals
  go_in;go_wp2
  go_quiet (fail)
  go_wp2
  go_quiet (fail)
  go_wp2
  go_ret2
  exact⟨rfl,_,rfl⟩
theorem jH(b:Nat)(s:ByteArray)(p L H:Nat)(f r l i hi:Int)(w:World)(h:w.heap[b]? = some (gC s p f r l))(u:s.size<=maxLen)(y:i=L)(G:hi=H)(ht:M.tk s p L H=true): Calls prog 81 #[.pointer (some ⟨b,0,none⟩),.int .i64 i,.int .i64 hi] w λe w'=>e=.returned (.tuple #[.int .i64 (M.bt s p),.bool true])/\w'.heap[b]? = some (gC s ((p+1:Nat):Int) f r l)/\w.grownBy w' (some b):=by
 obtain⟨o,W,J⟩:=M.fK ht;have e:=M.lF s p o;refine(B8 b s p f r l i hi (M.bt s p) w h u o (by show _=_;rw[e]) (by omega) (by omega)).mono ?_;rintro e w' ⟨rfl,n,rfl⟩;exact⟨rfl,sH (w:=w.drewN n) h _,bp (db (ax _ _) _) (ag rfl) _⟩
theorem nz(b:Nat)(s:ByteArray)(p L H:Nat)(f r l i hi:Int)(w:World)(h:w.heap[b]? = some (gC s p f r l))(J:p<=s.size)(u:i=L)(y:hi=H)(ht:M.tk s p L H=false): Calls prog 81 #[.pointer (some ⟨b,0,none⟩),.int .i64 i,.int .i64 hi] w λe w'=>e=.returned (.tuple #[.int .i64 0,.bool false])/\w'.heap[b]? = some (gC s p f r l)/\w.grownBy w' (some b):=by
 by_cases o:p<s.size
 .have e:=M.lF s p o;have G:M.bt s p<L\/H<M.bt s p:=by simp[M.tk]at ht;omega
  refine(En b s p f r l i hi (M.bt s p) w h o (by show _=_;rw[e]) (by omega)).mono ?_;rintro e w' ⟨rfl,n,rfl⟩;exact⟨rfl,h,db (ax _ _) _⟩
 obtain rfl:p=s.size:=by omega
 refine(B9 b s f r l i hi w h).mono ?_;rintro e w' ⟨rfl,n,rfl⟩;exact⟨rfl,h,db (ax _ _) _⟩
theorem pz(b:Nat)(s S:ByteArray)(p R F L:Nat)(f r l:Int)(w:World)(h:w.heap[b]? = some (gC s p f r l))(hs:s.size<=maxLen)(hS:S.size<=3)(hp:p<=s.size)(hr:Hid (r=R))(hf:Hid (f=F))(hl:Hid (l=L))(h1:1<=R)(h2:1<=F)(h3:R<=8)(h4:F<=8): Calls prog 197 #[.pointer (some ⟨b,0,none⟩),.string S] w λe w'=>e=.returned (.bool (M.ops s R F L (M.eX S) p).2)/\w'.heap[b]? = some (gC s ((M.ops s R F L (M.eX S) p).1:Nat) f r l)/\w.grownBy w' (some b):=by
 have HS:Hid (s.size<=maxLen):=hs;go_in;go_wp2
 go_loopw [10] (λi wr=>∃k q:Nat,k<=S.size/\q<=s.size/\i=.int .i64 k/\Hid (wr.heap[b]? = some (gC s q f r l))/\w.grownBy wr (some b)/\Hid (M.ops s R F L ((M.eX S).drop k) q=M.ops s R F L (M.eX S) p)) (λi _=>S.size-(intOf i).toNat)
 case atStart=>exact⟨0,p,by omega,hp,rfl,h,ax _ _,rfl⟩
 case round=>
  obtain⟨k,q,hk,hq,rfl,G,Y,Z⟩:=hrel;by_cases a2:k<S.size
  .have y:Hid (M.ops s R F L (M.eX S) p=if S[k].toNat=116 then M.uQ s q L else if M.tk s q 0 (M.iQ R F S[k].toNat)=true then M.ops s R F L ((M.eX S).drop (k+1)) (q+1) else(q,false)):=by
    show _=_;rw[<-Z.out,M.kx S k a2];rfl
   by_cases ht:S[k].toNat=116
   .have o:Hid (M.ops s R F L (M.eX S) p=M.uQ s q L):=by show _=_;rw[y.out,aj ht]
    go_wp2_with fail
    refine(wV b s q L f r l _ G.out HS.out hq hl.out).mono ?_;rintro e w1 ⟨rfl,J,a0⟩;go_wp2_with fail
    go_ret;refine⟨?_,?_,an Y a0⟩
    .rw[o.out];rfl
    rw[o.out];exact J
   have a1:((S[k].toNat:Int) == 116)=false:=by simp;omega
   rw[aa ht]at y;go_wp2_with fail
   refine(xE b s S[k].toNat R F q f r l _ _ G.out hr.out hf.out h1 h2 h3 h4 rfl).mono ?_;rintro e w1 ⟨rfl,rfl⟩;go_wp2_with fail
   by_cases u:M.tk s q 0 (M.iQ R F S[k].toNat)=true
   .have o:Hid (M.ops s R F L (M.eX S) p=M.ops s R F L ((M.eX S).drop (k+1)) (q+1)):=by show _=_;rw[y.out,aj u]
    have a3:=(M.fK u).1;refine(jH b s q 0 _ f r l _ _ _ G.out HS.out rfl rfl u).mono ?_;rintro e w2 ⟨rfl,J,H⟩;have HH:Hid (w2.heap[b]? = some (gC s ((q+1:Nat):Int) f r l)):=J;go_wp2_with fail
    go_roundw
    case rel=>exact⟨k+1,q+1,by omega,by omega,by go_num,HH,an Y H,o.out.symm⟩
    case measure=>simp[intOf];omega
   have o:Hid (M.ops s R F L (M.eX S) p=(q,false)):=by show _=_;rw[y.out,aa u]
   refine(nz b s q 0 _ f r l _ _ _ G.out hq rfl rfl (by simpa using u)).mono ?_;rintro e w2 ⟨rfl,J,H⟩;have HH:Hid (w2.heap[b]? = some (gC s q f r l)):=J;go_wp2_with fail
   go_ret;refine⟨?_,?_,an Y H⟩
   .rw[o.out];rfl
   rw[o.out];exact HH.out
  obtain rfl:k=S.size:=by omega
  have o:Hid (M.ops s R F L (M.eX S) p=(q,true)):=by
   show _=_;rw[<-Z.out,M.qB];rfl
  go_wp2_with fail
  go_ret;refine⟨?_,?_,Y⟩
  .rw[o.out];rfl
  rw[o.out];exact G.out
def mB(w:World):Prop:=0<w.heap.size/\∀op,op<23->w.cell? ⟨0,op,none⟩=some (.string (M.KS op))
theorem mB.kept{w w':World}{b:Nat}(h:mB w)(o:w.grownBy w' (some b))(y:b≠0):mB w':=
 ⟨dm h.1 o.size,λi u=>(aw (a:=⟨0,i,none⟩) (o.block 0 h.1 (by intro e;injection e;omega))).trans (h.2 i u)⟩
theorem mB.alloc{w:World}(h:mB w)(o:Obj):mB (w.alloc o):=h.kept (b:=1) (ah _ _ _) (by omega)
def vZ(s:ByteArray)(p:Nat)(e:Ending)(ok:Bool):Prop:=∃a0 a1 a2 a3:Int,e=.returned (.tuple #[.agg #[.int .u8 a0,.int .u8 a1,.int .u8 a2,.int .u8 a3],.bool ok])/\(ok=true->a0=(M.bt s p:Int)/\a1=(M.bt s (p+1):Int)/\a2=(M.bt s (p+2):Int)/\a3=(M.bt s (p+3):Int))
theorem ky{w:World}{b:Nat}{s:ByteArray}{p f r l:Int}(h:w.heap[b]? = some (gC s p f r l))(o:Obj):(w.alloc o).heap[b]? = some (gC s p f r l):=(ak _ _ _ (bz h)).trans h
theorem oR{w w1:World}{b k:Nat}{G u i o:Value}{T:TypeId}(h:w.heap[k]? = some (.cells #[G,u,i,o] T (0,0)))(H:w.grownBy w1 (some b))(J:k≠b): k<w1.heap.size/\w1.cell? ⟨k,0,none⟩=some G/\w1.cell? ⟨k,1,none⟩=some u/\w1.cell? ⟨k,2,none⟩=some i/\w1.cell? ⟨k,3,none⟩=some o /\ w1.frozen? ⟨k,0,none⟩=false/\w1.frozen? ⟨k,1,none⟩=false/\w1.frozen? ⟨k,2,none⟩=false/\w1.frozen? ⟨k,3,none⟩=false:=by
 have y:=cm H h (by intro e;injection e;omega);exact⟨bz y,by simp[World.cell?,World.frozen?,y]⟩
theorem qY(b:Nat)(s:ByteArray)(p:Nat)(f r l:Int)(w:World)(h:w.heap[b]? = some (gC s p f r l))(y:p<=s.size)(ht:M.tk s p 0 22=false): Calls prog 147 #[.pointer (some ⟨b,0,none⟩)] w λe w'=>vZ s p e false/\w'.heap[b]? = some (gC s p f r l)/\w.grownBy w' (some b):=by
 have hb:=bz h;obtain⟨c0,c1,_,_,_⟩:=eR h;have H:Hid (w.heap[b]? = some (gC s p f r l)):=h;go_in;go_wp2_with fail
 refine(nz b s p 0 22 f r l _ _ _ (ky H _) y rfl rfl ht).mono ?_;rintro e w1 ⟨rfl,i,o⟩;obtain⟨hz,d0,Y,d2,J,Z,e1,W,G⟩:=oR (k:=w.heap.size) (bf w _) o (by omega);have u:Hid (w1.heap[b]? = some (gC s p f r l)):=i;go_wp2_with fail
 refine da (v:=.tuple #[.agg #[.int .u8 0,.int .u8 0,.int .u8 0,.int .u8 0],.bool false]) (by simp[results,results147,go_sem, *]) rfl ⟨⟨0,0,0,0,rfl,λh=>by cases h⟩,?_,?_⟩
 .repeat (rw[af _ _ _ _ (by simp;omega)])
  exact u
 repeat (refine bp ?_ (ab (by simp)) _)
 exact an (ah _ _ _) o
theorem qX(b:Nat)(s:ByteArray)(p R F L:Nat)(f r l:Int)(w:World)(h:w.heap[b]? = some (gC s p f r l))(hs:s.size<=maxLen)(W:b≠0)(Z:mB w)(hr:Hid (r=R))(hf:Hid (f=F))(hl:Hid (l=L))(h1:1<=R)(h2:1<=F)(h3:R<=8)(h4:F<=8)(ht:M.tk s p 0 22=true)(ho:Hid ((M.rz s (p+1) (M.bt s p) R F L).2=false)): Calls prog 147 #[.pointer (some ⟨b,0,none⟩)] w λe w'=>vZ s p e false/\w'.heap[b]? = some (gC s ((M.rz s (p+1) (M.bt s p) R F L).1:Nat) f r l)/\w.grownBy w' (some b):=by
 have hb:=bz h;obtain⟨c0,c1,_,_,_⟩:=eR h;have H:Hid (w.heap[b]? = some (gC s p f r l)):=h;have HS:Hid (s.size<=maxLen):=hs;obtain⟨hp,_,a1⟩:=M.fK ht;have HO:Hid (M.ops s R F L (M.eX (M.KS (M.bt s p))) (p+1)=M.rz s (p+1) (M.bt s p) R F L):=by
  show _=_;rw[(M.mC _ (by omega)).1,M.zO _ _ _ _ _ _ (by omega)]
 have HK:Hid ((M.KS (M.bt s p)).size<=3):=by show _<=_;rw[(M.mC _ (by omega)).2];exact bj _
 have HT:Hid (M.tk s p 0 22=true):=ht;have y:Hid (mB w):=Z;go_in;go_wp2_with fail
 refine(jH b s p 0 22 f r l _ _ _ (ky H _) HS rfl rfl HT).mono ?_;rintro e w1 ⟨rfl,o,J⟩;have i:=(y.alloc _).kept J W;have hc:=i.2 (M.bt s p) (by omega);have HH:Hid (w1.heap[b]? = some (gC s ((p+1:Nat):Int) f r l)):=o;generalize Y:M.bt s p=q at *;have HQ:Hid (M.bt s p=q):=Y;go_wp2_with fail
 refine(pz b s (M.KS q) (p+1) R F L f r l _ HH HS HK (by omega) hr hf hl h1 h2 h3 h4).mono ?_;rintro e w2 ⟨rfl,o,u⟩;rw[HO.out]at o ⊢;rw[ho.out];obtain⟨hz,d0,d1,d2,d3,e0,e1,e2,e3⟩:=oR (k:=w.heap.size) (bf w _) (an J u) (by omega);have G:Hid (w2.heap[b]? = some (gC s ((M.rz s (p+1) q R F L).1:Nat) f r l)):=o;go_wp2_with fail
 refine da (v:=.tuple #[.agg #[.int .u8 0,.int .u8 0,.int .u8 0,.int .u8 0],.bool false]) (by simp[results,results147,go_sem, *]) rfl ⟨⟨0,0,0,0,rfl,λh=>by cases h⟩,?_,?_⟩
 .repeat (rw[af _ _ _ _ (by simp;omega)])
  rw[HQ.out];exact G
 repeat (refine bp ?_ (ab (by simp)) _)
 exact an (an (ah _ _ _) J) u
theorem qW(b:Nat)(s:ByteArray)(p R F L:Nat)(f r l:Int)(w:World)(h:w.heap[b]? = some (gC s p f r l))(hs:s.size<=maxLen)(Y:b≠0)(hT:mB w)(hr:Hid (r=R))(hf:Hid (f=F))(hl:Hid (l=L))(h1:1<=R)(h2:1<=F)(h3:R<=8)(h4:F<=8)(ht:M.tk s p 0 22=true)(Z:Hid ((M.rz s (p+1) (M.bt s p) R F L).2=true)): Calls prog 147 #[.pointer (some ⟨b,0,none⟩)] w λe w'=>vZ s p e true/\w'.heap[b]? = some (gC s ((p+4:Nat):Int) f r l)/\w.grownBy w' (some b):=by
 have hb:=bz h;obtain⟨c0,c1,_,_,_⟩:=eR h;have H:Hid (w.heap[b]? = some (gC s p f r l)):=h;have HS:Hid (s.size<=maxLen):=hs;obtain⟨hp,_,a1⟩:=M.fK ht;have HO:Hid (M.ops s R F L (M.eX (M.KS (M.bt s p))) (p+1)=M.rz s (p+1) (M.bt s p) R F L):=by
  show _=_;rw[(M.mC _ (by omega)).1,M.zO _ _ _ _ _ _ (by omega)]
 have HK:Hid ((M.KS (M.bt s p)).size<=3):=by show _<=_;rw[(M.mC _ (by omega)).2];exact bj _
 have HT:Hid (M.tk s p 0 22=true):=ht;have y:Hid (mB w):=hT;clear h hs ht hT;go_in;go_wp2_with fail
 refine(jH b s p 0 22 f r l _ _ _ (ky H _) HS rfl rfl HT).mono ?_;rintro e w1 ⟨rfl,i,G⟩;have o:=(y.alloc _).kept G Y;have hc:=o.2 (M.bt s p) (by omega);have HH:Hid (w1.heap[b]? = some (gC s ((p+1:Nat):Int) f r l)):=i;clear i;generalize hq:M.bt s p=q at *;clear hq o;go_wp2_with fail
 refine(pz b s (M.KS q) (p+1) R F L f r l _ HH HS HK (by omega) hr hf hl h1 h2 h3 h4).mono ?_;rintro e w2 ⟨rfl,i,u⟩;rw[HO.out]at i ⊢;rw[Z.out];rw[M.ry Z]at i;have J:=(M.CQ (s:=s) (p:=p+1) (op:=q) (r:=R) (f:=F) (l:=L) (by omega)).2;rw[M.ry Z]at J;obtain⟨hz,d0,d1,d2,d3,e0,e1,e2,e3⟩:=oR (k:=w.heap.size) (bf w _) (an G u) (by omega);have W:Hid (w2.heap[b]? = some (gC s ((p+4:Nat):Int) f r l)):=i;obtain⟨x0,x1,_,_,_⟩:=eR i;clear i;go_wp2_with fail
 go_quiet (fail)
 go_wp2_with fail
 have h4:(s.extract p (p+1+3)).size=4:=by simp;omega
 have HX:Hid (M.bt (s.extract p (p+1+3)) 0=M.bt s p/\M.bt (s.extract p (p+1+3)) 1=M.bt s (p+1)/\M.bt (s.extract p (p+1+3)) 2=M.bt s (p+2)/\M.bt (s.extract p (p+1+3)) 3=M.bt s (p+3)):=
  ⟨M.mS s p _ 0 (by omega) (by omega),M.mS s p _ 1 (by omega) (by omega),M.mS s p _ 2 (by omega) (by omega),M.mS s p _ 3 (by omega) (by omega)⟩
 generalize s.extract p (p+1+3)=x at *;go_region
 go_wp2_with fail
 refine da (v:=.tuple #[.agg #[.int .u8 (x[0].toNat:Int),.int .u8 (x[1].toNat:Int),.int .u8 (x[2].toNat:Int),.int .u8 (x[3].toNat:Int)],.bool true]) (by simp[results,results147,go_sem, *]) rfl ⟨⟨_,_,_,_,rfl,λ_=>?_⟩,?_,?_⟩
 .obtain⟨k0,k1,k2,k3⟩:=HX;rw[M.lF x 0 (by omega)]at k0;rw[M.lF x 1 (by omega)]at k1;rw[M.lF x 2 (by omega)]at k2;rw[M.lF x 3 (by omega)]at k3;rw[k0,k1,k2,k3];exact⟨rfl,rfl,rfl,rfl⟩
 .repeat (rw[af _ _ _ _ (by simp;omega)])
  exact W
 repeat (refine bp ?_ (ab (by simp)) _)
 exact db (an (an (ah _ _ _) G) u) _
theorem qZ(b:Nat)(s:ByteArray)(p R F L:Nat)(f r l:Int)(w:World)(h:w.heap[b]? = some (gC s p f r l))(J:s.size<=maxLen)(hp:p<=s.size)(o:b≠0)(H:mB w)(y:Hid (r=R))(W:Hid (f=F))(hl:Hid (l=L))(G:1<=R)(Z:1<=F)(Y:R<=8)(h4:F<=8): Calls prog 147 #[.pointer (some ⟨b,0,none⟩)] w λe w'=>vZ s p e (M.ins s p R F L).2/\w'.heap[b]? = some (gC s ((M.ins s p R F L).1:Nat) f r l)/\w.grownBy w' (some b):=by
 by_cases ht:M.tk s p 0 22=true
 .have e:M.ins s p R F L=M.rz s (p+1) (M.bt s p) R F L:=by unfold M.ins;rw[aj ht]
  rw[e];by_cases u:(M.rz s (p+1) (M.bt s p) R F L).2=true
  .rw[u,M.ry u];exact qW b s p R F L f r l w h J o H y W hl G Z Y h4 ht u
  have i:(M.rz s (p+1) (M.bt s p) R F L).2=false:=by simpa using u
  rw[i];exact qX b s p R F L f r l w h J o H y W hl G Z Y h4 ht i
 have e:M.ins s p R F L=(p,false):=by unfold M.ins;rw[aa ht]
 rw[e];exact qY b s p f r l w h hp (by simpa using ht)
def oG(s:ByteArray)(p:Nat):Nat->Value:=λj=>.int .u8 (M.bt s (p+j):Int)
def Av(s:ByteArray)(p:Nat)(w w':World)(e:Ending)(ok:Bool):Prop:=∃(x:Int) (ad:Option Addr) (n c:Nat),e=.returned (.tuple #[.agg #[.int .i64 x,.slice ad n c],.bool ok]) /\
 (ok=true->x=(M.bt s p:Int)/\n=M.bt s (p+1)/\c=n/\∃g,w.heap.size<=g/\ad=some ⟨g,0,none⟩/\Full w' g 183 (n*4) (n*4) (oG s (p+2)))
theorem Tryz.E9:(prog.info? 183).map (λi=>(i.zero,i.size,i.bytes))=some (some (.agg #[.int .u8 0,.int .u8 0,.int .u8 0,.int .u8 0]),4,4):=by kernel_rfl
theorem jF{w w1:World}{b k:Nat}{u i:Value}{T:TypeId}(h:w.heap[k]? = some (.cells #[u,i] T (0,0)))(y:w.grownBy w1 (some b))(G:k≠b): k<w1.heap.size/\w1.cell? ⟨k,0,none⟩=some u/\w1.cell? ⟨k,1,none⟩=some i/\w1.frozen? ⟨k,0,none⟩=false/\w1.frozen? ⟨k,1,none⟩=false:=by
 have o:=cm y h (by intro e;injection e;omega);exact⟨bz o,by simp[World.cell?,World.frozen?,o]⟩
theorem vF(b:Nat)(s:ByteArray)(p F:Nat)(f r l:Int)(w:World)(h:w.heap[b]? = some (gC s p f r l))(hs:s.size<=maxLen)(Y:b≠0)(hT:mB w)(hf:Hid (f=F))(h2:1<=F)(h4:F<=8)(aH:M.tk s p 2 8=true)(aB:M.tk s (p+1) 1 200=true): Calls prog 82 #[.pointer (some ⟨b,0,none⟩)] w λe w'=>Av s p w w' e (M.fn s p F).2/\∃r' l',w'.heap[b]? = some (gC s ((M.fn s p F).1:Nat) f r' l')/\w.grownBy w' (some b):=by
 have hb:=bz h;have H:Hid (w.heap[b]? = some (gC s p f r l)):=h;have HS:Hid (s.size<=maxLen):=hs;have aJ:Hid (M.tk s p 2 8=true):=aH;have aG:Hid (M.tk s (p+1) 1 200=true):=aB;obtain⟨_,q1,q2⟩:=M.fK aH;obtain⟨_,q3,q4⟩:=M.fK aB;have Z:Hid (mB w):=hT;clear h hs aH aB hT;go_in;go_wp2_with fail
 refine(jH b s p 2 8 f r l _ _ _ (ky H _) HS rfl rfl aJ).mono ?_;rintro e w1 ⟨rfl,G,hg⟩;have HH:Hid (w1.heap[b]? = some (gC s ((p+1:Nat):Int) f r l)):=G;obtain⟨_,_,_,x3,_⟩:=eR G;obtain⟨_,_,y3,y4⟩:=gU G;clear G;generalize hR:M.bt s p=R at *;have HR:Hid (M.bt s p=R):=hR;clear hR;go_wp2_with fail
 refine(jH b s (p+1) 1 200 f R l _ _ _ (sG HH _) HS rfl rfl aG).mono ?_;rintro e w2 ⟨rfl,G,a8⟩;have aD:Hid (w2.heap[b]? = some (gC s ((p+1+1:Nat):Int) f R l)):=G;obtain⟨_,_,_,z3,z4⟩:=eR G;obtain⟨_,_,_,u4⟩:=gU G;clear G;generalize hL:M.bt s (p+1)=L at *;have HL:Hid (M.bt s (p+1)=L):=hL;clear hL x3 y3 y4;obtain⟨i0,hi,aS,aO,aN⟩:=info_parts Tryz.E9;go_wp2_with (at_make;go_loud (refine wpList_make_full _ rfl _ _ 176 rfl 0 183 i0 _ 4 underlying176 hi aS aO _ _ _ _ L rfl rfl rfl rfl (by rw[aN];omega) (by unfold maxLen;omega) (dc _) ?_))
 intro w3 a9 aA;have u:(w2.setCell ⟨b,4,none⟩ (.int .i64 L)).grownBy w3 (some b):=eD aA;have gA:w.grownBy (w2.setCell ⟨b,4,none⟩ (.int .i64 L)) (some b):=bp (an (bp (an (ah _ _ _) hg) (ag rfl) _) a8) (ag rfl) _;have gB:(w.alloc (.cells #[.int .i64 0,.slice none 0 0] 178)).grownBy w3 (some b):=an (bp (an (bp hg (ag rfl) _) a8) (ag rfl) _) u;have KB:Hid (w3.heap[b]? = some (gC s ((p+2:Nat):Int) f R L)):=by
  show _=_;rw[aA.block b (by have:=bz aD;simpa[World.setCell] using this) (by intro e;cases e)];exact wY aD _
 have KG:Hid (w.grownBy w3 (some b)):=an gA u;have KR:Hid (w3.heap[w.heap.size]? = some (.cells #[.int .i64 0,.slice none 0 0] 178 (0,0))):=cm gB (bf w _) (by intro e;injection e;omega);have KT:Hid (mB w3):=Z.kept KG Y;have KW:Hid (Full w3 w2.heap.size 183 (L*4) (0*4) (oG s (p+2))):=(jB.owned a9).full _;have aY:w.heap.size<w2.heap.size:=by have:=hg.size;have:=a8.size;simp[World.setCell]at *;omega
 have aL:Hid (mB w):=Z.out;clear a9 aA u gA gB HH aD z3 z4 u4 hg a8 Z;generalize w2.heap.size=g at *;have a6:Hid (M.fn s p F=M.code s R F L (p+2) L):=by
  show _=_;unfold M.fn;rw[aj aJ.out,aj aG.out,HR.out,HL.out]
 go_wp2_with fail
 go_loopw [36] (λi wr=>∃k q:Nat,k<=L/\q<=s.size/\i=.int .i64 k/\Hid (wr.heap[b]? = some (gC s q f R L))/\Hid (w.grownBy wr (some b))/\Hid (wr.heap[w.heap.size]? = some (.cells #[.int .i64 0,.slice none 0 0] 178 (0,0)))/\Hid (mB wr)/\Hid (Full wr g 183 (L*4) (k*4) (oG s (p+2)))/\Hid (q=p+2+4*k)/\Hid (M.code s R F L q (L-k)=M.code s R F L (p+2) L)) (λi _=>L-(intOf i).toNat)
 case atStart=>exact⟨0,p+2,by omega,by omega,rfl,KB,KG,KR,KT,KW,rfl,rfl⟩
 case round=>
  obtain⟨k,q,hk,hq,rfl,rB,rG,rR,rT,rW,rQ,rC⟩:=hrel;clear KB KG KR KT KW;by_cases aW:k<L
  .go_wp2_with fail
   refine(qZ b s q R F L f R L _ rB.out HS.out hq Y rT.out rfl hf rfl (by omega) h2 q2 h4).mono ?_;rintro e w4 ⟨⟨a0,a1,a2,a3,rfl,hA⟩,G,u⟩;have HA:Hid ((M.ins s q R F L).2=true->a0=(M.bt s q:Int)/\a1=(M.bt s (q+1):Int)/\a2=(M.bt s (q+2):Int)/\a3=(M.bt s (q+3):Int)):=hA;clear hA;have aQ:g≠b:=by omega
   have aR:w.heap.size≠b:=by omega
   have W:Hid (Full w4 g 183 (L*4) (k*4) (oG s (p+2))):=rW.out.kept u aQ;have a5:Hid (w4.heap[b]? = some (gC s ((M.ins s q R F L).1:Nat) f R L)):=G;have a4:Hid (w.grownBy w4 (some b)):=an rG.out u;have a7:Hid (w4.heap[w.heap.size]? = some (.cells #[.int .i64 0,.slice none 0 0] 178 (0,0))):=cm u rR.out (by intro e;injection e;omega);clear G u rB rG rR rT rW
   cases hok:(M.ins s q R F L).2
   .have HC:Hid (M.code s R F L (p+2) L=((M.ins s q R F L).1,false)):=by
     show _=_;rw[<-rC.out,show L-k=(L-(k+1))+1 by omega];unfold M.code;rw[aa (by rw[hok];simp)]
    clear rC hok;simp only[];iterate 13 (first|go_values|go_skip|go_guarded|go_step|go_upon|go_back)
    refine wpList_store_mid rfl 183 (.tmp 46) (.tmp 44) rfl g (k*4) #[.int .u8 a0,.int .u8 a1,.int .u8 a2,.int .u8 a3] rfl rfl (W.out.xV.there _ _ (by simp;omega)) (by kernel_rfl) (by simp[Value.oneCell']) ?_;have aC:∃y,y=w4.setCells g (k*4) #[Value.int .u8 a0,.int .u8 a1,.int .u8 a2,.int .u8 a3].toList:=⟨_,rfl⟩;obtain⟨y,o⟩:=aC;have aE:Hid (y.heap[b]? = some (gC s ((M.ins s q R F L).1:Nat) f R L)):=by show _=_;rw[o,eU g b (by omega)];exact a5
    have J:Hid (w.grownBy y (some b)):=by show World.grownBy _ _ _;rw[o];exact gM g _ _ _ _ a4 (by omega)
    have aF:Hid (y.heap[w.heap.size]? = some (.cells #[.int .i64 0,.slice none 0 0] 178 (0,0))):=by show _=_;rw[o,eU g _ (by omega)];exact a7
    rw[<-o];clear o a5 a4 a7 W;obtain⟨aP,d0,d1,e0,e1⟩:=jF aF (ax y (some b)) aR;go_wp2_with fail
    refine da (v:=.tuple #[.agg #[.int .i64 0,.slice none 0 0],.bool false]) (by simp[results,results82,go_sem, *]) rfl ⟨?_,R,L,?_,?_⟩
    .rw[a6.out,HC.out];exact⟨_,_,_,_,rfl,λh=>by cases h⟩
    .rw[a6.out,HC.out];repeat (rw[af _ _ _ _ (by simp;omega)])
     exact aE
    repeat (refine bp ?_ (ab (by simp)) _)
    exact J
   have HC:Hid (M.code s R F L (M.ins s q R F L).1 (L-(k+1))=M.code s R F L (p+2) L):=by
    show _=_;rw[<-rC.out,show L-k=(L-(k+1))+1 by omega];conv=>rhs;unfold M.code
    rw[aj hok]
   have aT:=(M.yO (s:=s) (p:=q) (r:=R) (f:=F) (l:=L) hq).2;have aM:Hid ((M.ins s q R F L).2=true):=hok;have KQ:Hid ((M.ins s q R F L).1=p+2+4*(k+1)):=by
    show _=_;have:=M.vz hok;have:=rQ.out;omega
   clear rC hok;simp only[];iterate 13 (first|go_values|go_skip|go_guarded|go_step|go_upon|go_back)
   refine wpList_store_mid rfl 183 (.tmp 46) (.tmp 44) rfl g (k*4) #[.int .u8 a0,.int .u8 a1,.int .u8 a2,.int .u8 a3] rfl rfl (W.xV.there _ _ (by simp;omega)) (by kernel_rfl) (by simp[Value.oneCell']) ?_;have aC:∃y,y=w4.setCells g (k*4) #[Value.int .u8 a0,.int .u8 a1,.int .u8 a2,.int .u8 a3].toList:=⟨_,rfl⟩;obtain⟨y,o⟩:=aC;have aE:Hid (y.heap[b]? = some (gC s ((M.ins s q R F L).1:Nat) f R L)):=by show _=_;rw[o,eU g b (by omega)];exact a5
   have J:Hid (w.grownBy y (some b)):=by show World.grownBy _ _ _;rw[o];exact gM g _ _ _ _ a4 (by omega)
   have aF:Hid (y.heap[w.heap.size]? = some (.cells #[.int .i64 0,.slice none 0 0] 178 (0,0))):=by show _=_;rw[o,eU g _ (by omega)];exact a7
   have aK:Hid (mB y):=aL.kept J Y;have aV:Hid (Full y g 183 (L*4) ((k+1)*4) (oG s (p+2))):=by
    show Full _ _ _ _ _ _;rw[o,show(k+1)*4=k*4+4 by omega];obtain⟨rfl,rfl,rfl,rfl⟩:=HA aM;have aU:=rQ.out;refine W.I4 (by omega) _ _ _ _ ?_ ?_ ?_ ?_<;>(unfold oG;rw[aU];congr 3;omega)
   rw[<-o];clear o a5 a4 a7 W HA aM rQ;generalize (M.ins s q R F L).1=q' at *;go_wp2_with fail
   go_roundw
   case rel=>exact⟨k+1,q',by omega,aT,by go_num,aE,J,aF,aK,aV,KQ,HC⟩
   case measure=>simp[intOf];omega
  obtain rfl:k=L:=by omega
  have HC:Hid (M.code s R F k (p+2) k=(q,true)):=by
   show _=_;rw[<-rC.out,Nat.sub_self];rfl
  clear rC;obtain⟨aP,d0,d1,e0,e1⟩:=jF rR (ax wr (some b)) (by omega);obtain⟨_,_,_,x3,_⟩:=eR rB;go_wp2_with fail
  refine da (v:=.tuple #[.agg #[.int .i64 R,.slice (some ⟨g,0,none⟩) k k],.bool true]) (by simp[results,results82,go_sem, *]) rfl ⟨?_,R,k,?_,?_⟩
  .rw[a6.out,HC.out];refine⟨_,_,_,_,rfl,λ_=>⟨by rw[HR.out],by rw[HL.out],rfl,g,by omega,rfl,rW.block ?_⟩⟩;repeat (rw[af _ _ _ _ (by simp;omega)])
  .rw[a6.out,HC.out];repeat (rw[af _ _ _ _ (by simp;omega)])
   exact rB
  repeat (refine bp ?_ (ab (by simp)) _)
  exact rG
theorem vH(b:Nat)(s:ByteArray)(p:Nat)(f r l:Int)(w:World)(h:w.heap[b]? = some (gC s p f r l))(Y:p<=s.size)(o:M.tk s p 2 8=false): Calls prog 82 #[.pointer (some ⟨b,0,none⟩)] w λe w'=>Av s p w w' e false/\∃J G,w'.heap[b]? = some (gC s p f J G)/\w.grownBy w' (some b):=by
 have hb:=bz h;have H:Hid (w.heap[b]? = some (gC s p f r l)):=h;go_in;go_wp2_with fail
 refine(nz b s p 2 8 f r l _ _ _ (ky H _) Y rfl rfl o).mono ?_;rintro e w1 ⟨rfl,i,u⟩;have W:Hid (w1.heap[b]? = some (gC s p f r l)):=i;obtain⟨_,_,_,Z,_⟩:=eR i;obtain⟨_,_,y3,y4⟩:=gU i;obtain⟨y,d0,d1,e0,e1⟩:=jF (bf w (.cells #[.int .i64 0,.slice none 0 0] 178)) u (by omega);go_wp2_with fail
 refine da (v:=.tuple #[.agg #[.int .i64 0,.slice none 0 0],.bool false]) (by simp[results,results82,go_sem, *]) rfl ⟨⟨_,_,_,_,rfl,λh=>by cases h⟩,0,l,?_,?_⟩
 .repeat (rw[af _ _ _ _ (by simp;omega)])
  exact sG W _
 repeat (refine bp ?_ (by first|exact ag rfl|exact ab (by simp)) _)
 exact an (ah _ _ _) u
theorem vG(b:Nat)(s:ByteArray)(p:Nat)(f r l:Int)(w:World)(h:w.heap[b]? = some (gC s p f r l))(Y:s.size<=maxLen)(o:M.tk s p 2 8=true)(u:M.tk s (p+1) 1 200=false): Calls prog 82 #[.pointer (some ⟨b,0,none⟩)] w λe w'=>Av s p w w' e false/\∃r' l',w'.heap[b]? = some (gC s ((p+1:Nat):Int) f r' l')/\w.grownBy w' (some b):=by
 have hb:=bz h;have H:Hid (w.heap[b]? = some (gC s p f r l)):=h;have HS:Hid (s.size<=maxLen):=Y;have W:Hid (M.tk s p 2 8=true):=o;have J:Hid (M.tk s (p+1) 1 200=false):=u;obtain⟨hp,q1,q2⟩:=M.fK o;go_in;go_wp2_with fail
 refine(jH b s p 2 8 f r l _ _ _ (ky H _) HS rfl rfl W).mono ?_;rintro e w1 ⟨rfl,i,hg⟩;have HH:Hid (w1.heap[b]? = some (gC s ((p+1:Nat):Int) f r l)):=i;obtain⟨_,_,_,x3,_⟩:=eR i;obtain⟨_,_,y3,y4⟩:=gU i;generalize hR:M.bt s p=R at *;go_wp2_with fail
 refine(nz b s (p+1) 1 200 f R l _ _ _ (sG HH _) (by omega) rfl rfl J).mono ?_;rintro e w2 ⟨rfl,i,G⟩;have y:Hid (w2.heap[b]? = some (gC s ((p+1:Nat):Int) f R l)):=i;obtain⟨_,_,_,_,z4⟩:=eR i;obtain⟨_,_,_,u4⟩:=gU i;have Z:(w.alloc (.cells #[.int .i64 0,.slice none 0 0] 178)).grownBy w2 (some b):=an (bp hg (ag rfl) _) G;obtain⟨a0,d0,d1,e0,e1⟩:=jF (bf w (.cells #[.int .i64 0,.slice none 0 0] 178)) Z (by omega);go_wp2_with fail
 refine da (v:=.tuple #[.agg #[.int .i64 0,.slice none 0 0],.bool false]) (by simp[results,results82,go_sem, *]) rfl ⟨⟨_,_,_,_,rfl,λh=>by cases h⟩,R,0,?_,?_⟩
 .repeat (rw[af _ _ _ _ (by simp;omega)])
  exact wY y _
 repeat (refine bp ?_ (by first|exact ag rfl|exact ab (by simp)) _)
 exact an (ah _ _ _) Z
theorem tX(b:Nat)(s:ByteArray)(p F:Nat)(f r l:Int)(w:World)(h:w.heap[b]? = some (gC s p f r l))(y:s.size<=maxLen)(hp:p<=s.size)(u:b≠0)(G:mB w)(J:Hid (f=F))(Z:1<=F)(Y:F<=8): Calls prog 82 #[.pointer (some ⟨b,0,none⟩)] w λe w'=>Av s p w w' e (M.fn s p F).2/\∃W H,w'.heap[b]? = some (gC s ((M.fn s p F).1:Nat) f W H)/\w.grownBy w' (some b):=by
 by_cases i:M.tk s p 2 8=true
 .by_cases o:M.tk s (p+1) 1 200=true
  .exact vF b s p F f r l w h y u G J Z Y i o
  have e:M.fn s p F=(p+1,false):=by unfold M.fn;rw[aj i,aa o]
  rw[e];exact vG b s p f r l w h y i (by simpa using o)
 have e:M.fn s p F=(p,false):=by unfold M.fn;rw[aa i]
 rw[e];exact vH b s p f r l w h hp (by simpa using i)
theorem Tryz.Dr:(prog.info? 184).map (λi=>(i.zero,i.size,i.bytes))=some (some (.pointer none),1,8):=by kernel_rfl
theorem mf(j:Nat):eC (λ_=>((0,0):B.V)) j=.int .i64 0:=by unfold eC;split<;>rfl
theorem A7{w:World}{g b e:Nat}(h:w.ownsRow e 149 2 (.slice (some ⟨g,0,none⟩) b b) b (madeCells #[.int .i64 0,.int .i64 0] (b*2)).toList):Full w g 149 (b*2) (b*2) (eC (λ_=>(0,0))):=by
 rcases h.2 with⟨h,_⟩|⟨g',u,i,H,h2,Y,h4,Z,J,W⟩
 .cases h
 cases H;refine⟨i,Y,J,λj y=>?_⟩;have o:=congrArg (λl=>l[j]?) W;have G:(madeCells #[.int .i64 0,.int .i64 0] (b*2)).toList[j]? = some (.int .i64 0):=by
  simp only[madeCells,Array.getElem?_toList,Array.getElem?_map,Array.getElem?_range];rw[aj y];have:j % 2=0\/j % 2=1:=by omega
  rcases this with h|h<;>simp[h]
 simp only[G,dh]at o;rw[aj y]at o;rw[mf];simpa using o
def jE(sz:Nat)(v v':Value):Prop:=v'.ownBlock=v.ownBlock\/∃g,v'.ownBlock=some g/\sz<=g
theorem tV{P:Program}(w:World)(t ty e:TypeId)(i:TypeInfo)(z:Value)(size bytes:Nat)(ht:P.underlying t=some (.slice e))(hi:P.info? e=some i)(hz:i.zero=some z)(y:i.size=size)(a4:i.bytes=bytes)(a2:z.cells.size=size)(a5:0<size)(ao:Option Addr)(n cap:Nat)(xs:List Value)(a1:w.ownsRow 0 e size (.slice ao n cap) n xs)(ad:Addr)(m c:Nat)(o:List Value)(hl:o.length=m*size)(H:∀j u,o[j]? = some u->w.cell? (ad.add j)=some u)(h1:∀u∈o,u.oneCell'=true)(a3:n+m<=maxLen)(G:(n+m)*bytes<=140737488355328)(hm:0<m): ∃J w',(Builtin.append_ #[t,t] ty #[.slice ao n cap,.slice (some ad) m c]).run P w=.ok J w'/\w'.ownsRow 0 e size J (n+m) (xs++o)/\w.grownBy w' (Value.slice ao n cap).ownBlock/\jE w.heap.size (.slice ao n cap) J:=by
 have a0:∀(J:Value) (w':World),w'.ownsRow w.heap.size e size J (n+m) (xs++o)->∃g,J.ownBlock=some g/\w.heap.size<=g:=λJ w' h=>by
  obtain⟨g,c',rfl⟩:=dM h (by omega);exact⟨g,rfl,(dA h g rfl).1⟩
 rcases id a1 with⟨a7,⟨hv,h0⟩|⟨g,c',a8,hv,_,h2,h3,h4,h5,h6⟩⟩
 .injection hv with e1 e2 e3;subst e1 e2 e3;obtain rfl:xs=[]:=List.eq_nil_of_length_eq_zero (by simpa using a7);obtain⟨J,w',W,r1,r2,_⟩:=run_append_own (P:=P) w w.heap.size t ty e i z size bytes ht hi hz y a4 a2 a5 (.slice none 0 0) 0 [] (dJ w _ e size) ad m c o hl H h1 a3 G (bj _);exact⟨J,w',W,gw r1 (dc _),r2,ab (a0 J w' r1)⟩
 injection hv with e1 e2 e3;subst e1 e3;by_cases Y:n+m<=cap
 .obtain⟨J,w',hr,r1,r2,_⟩:=run_append_own (P:=P) w 0 t ty e i z size bytes ht hi hz y a4 a2 a5 _ n xs a1 ad m c o hl H h1 a3 G (dc _);refine⟨J,w',hr,r1,r2,ag ?_⟩;subst y;have Z:=run_append_room (P:=P) w t ty e i ht hi g n cap a8 h2 ad m c o hl H h1 Y (by rw[hl,h5,<-Nat.add_mul];exact Nat.mul_le_mul_right _ Y);rw[hr]at Z;injection Z with Z _;rw[Z];rfl
 have a9:∀j u,xs[j]? = some u->w.cell? ((⟨g,0,none⟩:Addr).add j)=some u:=λj u hu=>by
  have hj:j<n*size:=by
   have:=(bu.1 hu).1;omega
  rw[<-h6,dh,aj hj]at hu;have a6:w.cell? ⟨g,j,none⟩=some u:=by
   simp only[World.cell?,h2];simpa using hu
  cases j with
  | zero=>simpa[Addr.add] using a6
  | succ j=>simpa[Addr.add] using a6
 obtain⟨J,w',W,r1,r2⟩:=run_append_arg_grows (P:=P) w t ty e i z size bytes ht hi hz y a4 a2 a5 ⟨g,0,none⟩ n cap xs a7 a9 ad m c o hl H (by omega) a3 G;exact⟨J,w',W,gw r1 (dc _),mQ r2 g,ab (a0 J w' r1)⟩
theorem oW{P:Program}(w:World){o:Oper}{a:Act}{K:Act->World->Prop}{Q:Exit->Act->World->Prop}(s x:Operand)(t:TypeId)(ho:o.op=.call { callee:=.builtin .append,args:=#[s,x],argTypes:=#[t,t] })(e:TypeId)(i:TypeInfo)(z:Value)(size bytes:Nat)(ht:P.underlying t=some (.slice e))(hi:P.info? e=some i)(hz:i.zero=some z)(H:i.size=size)(a0:i.bytes=bytes)(a1:z.cells.size=size)(a3:0<size)(Y:Option Addr)(n cap:Nat)(xs:List Value)(hs:a.eval s=.slice Y n cap)(W:w.ownsRow 0 e size (.slice Y n cap) n xs)(ad:Addr)(m c:Nat)(y:List Value)(hx:a.eval x=.slice (some ad) m c)(hl:y.length=m*size)(J:∀j u,y[j]? = some u->w.cell? (ad.add j)=some u)(h1:∀u∈y,u.oneCell'=true)(a2:n+m<=maxLen)(G:(n+m)*bytes<=140737488355328)(hm:0<m)(h:∀Z w',w'.ownsRow 0 e size Z (n+m) (xs++y)->w.grownBy w' (Value.slice Y n cap).ownBlock->jE w.heap.size (.slice Y n cap) Z->K (a.put o.dst Z) w'):Oper.wp P o a w K Q:=by
 obtain⟨Z,w',hr,h2,h3,h4⟩:=tV (P:=P) w t o.type e i z size bytes ht hi hz H a0 a1 a3 Y n cap xs W ad m c y hl J h1 a2 G hm;unfold Oper.wp execOp;simp only[ho,resolve,invoke,builtin,Sem.run_bind,Sem.run_pure,Result.andThen_ok,List.map_toArray,List.map_cons,List.map_nil,hs,hx,hr];exact h Z w' h2 h3 h4
theorem eS{P:Program}(w:World){ops:Array Oper}{o:Oper}{a:Act}{K:Act->World->Prop}{Q:Exit->Act->World->Prop}{E:Prop}(a0:o.guard=none)(s x:Operand)(t:TypeId)(ho:o.op=.call { callee:=.builtin .append,args:=#[s,x],argTypes:=#[t,t] })(e:TypeId)(i:TypeInfo)(z:Value)(size bytes:Nat)(ht:P.underlying t=some (.slice e))(hi:P.info? e=some i)(hz:i.zero=some z)(H:i.size=size)(Z:i.bytes=bytes)(a1:z.cells.size=size)(a3:0<size)(Y:Option Addr)(n cap:Nat)(xs:List Value)(hs:a.eval s=.slice Y n cap)(W:w.ownsRow 0 e size (.slice Y n cap) n xs)(ad:Addr)(m c:Nat)(y:List Value)(hx:a.eval x=.slice (some ad) m c)(hl:y.length=m*size)(J:∀j u,y[j]? = some u->w.cell? (ad.add j)=some u)(h1:∀u∈y,u.oneCell'=true)(a2:n+m<=maxLen)(G:(n+m)*bytes<=140737488355328)(hm:0<m)(h:∀v' w',w'.ownsRow 0 e size v' (n+m) (xs++y)->w.grownBy w' (Value.slice Y n cap).ownBlock->jE w.heap.size (.slice Y n cap) v'->K (a.put o.dst v') w'): if Region.wanted o (yielded ops a.tmps)=true then Oper.wp P o a w K Q else E:=by
 rw[aj (by simp[Region.wanted,a0])];exact oW w s x t ho e i z size bytes ht hi hz H Z a1 a3 Y n cap xs hs W ad m c y hx hl J h1 a2 G hm h
theorem gK{P:Program}{w:World}{ops:Array Oper}{rest:List Oper}{o:Oper}{a:Act}{Q:Exit->Act->World->Prop}(a1:o.guard=none)(s x:Operand)(t:TypeId)(ho:o.op=.call { callee:=.builtin .append,args:=#[s,x],argTypes:=#[t,t] })(e:TypeId)(i:TypeInfo)(z:Value)(size bytes:Nat)(ht:P.underlying t=some (.slice e))(hi:P.info? e=some i)(hz:i.zero=some z)(H:i.size=size)(a0:i.bytes=bytes)(a2:z.cells.size=size)(a4:0<size)(Y:Option Addr)(n cap:Nat)(xs:List Value)(hs:a.eval s=.slice Y n cap)(W:w.ownsRow 0 e size (.slice Y n cap) n xs)(ad:Addr)(m c:Nat)(y:List Value)(hx:a.eval x=.slice (some ad) m c)(hl:y.length=m*size)(J:∀j u,y[j]? = some u->w.cell? (ad.add j)=some u)(h1:∀u∈y,u.oneCell'=true)(a3:n+m<=maxLen)(G:(n+m)*bytes<=140737488355328)(hm:0<m)(h:∀Z w',w'.ownsRow 0 e size Z (n+m) (xs++y)->w.grownBy w' (Value.slice Y n cap).ownBlock->jE w.heap.size (.slice Y n cap) Z->wpList P ops Q rest (a.put o.dst Z) w'):wpList P ops Q (o :: rest) a w:=
 wpList_plain a1 λ_ hK=>oW w s x t ho e i z size bytes ht hi hz H a0 a2 a4 Y n cap xs hs W ad m c y hx hl J h1 a3 G hm λZ w' h2 h3 h4=>hK _ _ (h Z w' h2 h3 h4)
theorem IU(eb tb kind t:Nat)(x:Int)(ad:Option Addr)(n cap:Nat)(ev:List se)(E Tk:Nat->Value)(w:World)(Y:Full w eb 144 44 44 E)(G:E 43=.slice ad n cap)(hT:Full w tb 160 7 7 Tk)(W:Tk 0=.int .i64 t)(i:w.ownsRow 0 48 3 (.slice ad n cap) n (kE ev))(hn:n<=100000): Calls prog 173 #[P0 eb,.int .i64 kind,P0 tb,.int .i64 x] w λe w'=>e=.returned (.tuple #[])/\∃g c,w'.ownsRow 0 48 3 (.slice (some ⟨g,0,none⟩) (n+1) c) (n+1) (kE (ev++[(kind,t,x)]))/\Full w' eb 144 44 44 (ep E 43 (.slice (some ⟨g,0,none⟩) (n+1) c))/\dy (λk=>k=eb\/(Value.slice ad n cap).ownBlock=some k) w w'/\((Value.slice ad n cap).ownBlock=some g\/w.heap.size<=g):=by
 obtain⟨i0,hi,a5,a2,a1⟩:=info_parts Tryz.yP;obtain⟨a6,aB⟩:=Y.cells 43 (by omega);have c0:=hT.cell 0 (by omega);rw[G]at a6;rw[W]at c0;have le:=Y.lt;have HE:Hid (Full w eb 144 44 44 E):=Y;have HO:Hid (w.ownsRow 0 48 3 (.slice ad n cap) n (kE ev)):=i;have J:∀k,(Value.slice ad n cap).ownBlock=some k->k≠eb/\k<w.heap.size:=λk J=>⟨eL i Y (by decide) k J,(dA i k J).2.1⟩;have HK:=az J;clear Y hT i G W J;have hX:kE (ev++[(kind,t,x)])=kE ev++[.int .i64 kind,.int .i64 t,.int .i64 x]:=by rw[Fm];rfl
 rw[hX];clear hX;generalize kE ev=L at *;go_in;go_wp2_with fail
 go_region_law (refine eS _ rfl (.tmp 12) (.tmp 20) 45 rfl 48 i0 _ 3 24 underlying45 hi a5 a2 a1 rfl (by decide) ad n cap L (by first|rfl|simp[Act.eval,Act.put]) (dD HO (λk h=>ak _ _ _ (HK k h).2)) ⟨w.heap.size,0,none⟩ 1 1 [.int .i64 kind,.int .i64 t,.int .i64 x] (by first|rfl|simp[Act.eval,Act.put]) rfl (by intro j u o;match j,o with|0,o=>(simp at o;subst o;simp[Addr.add,go_sem])|1,o=>(simp at o;subst o;simp[Addr.add,go_sem])|2,o=>(simp at o;subst o;simp[Addr.add,go_sem])) (by simp[Value.oneCell']) (by unfold maxLen;omega) (by omega) (by decide) ?_;intro v' w6 ho H a0;obtain⟨g,c,rfl⟩:=dM ho (by omega);have a4:Hid ((Value.slice ad n cap).ownBlock=some g\/w.heap.size<=g):=(by rcases a0 with h|⟨g',h,hl⟩;exact ag h.symm;exact ab (by have e:g=g':=(by injection h);simp at hl;omega));clear a0;have Z:=az ho;have y:Hid (Full w6 eb 144 44 44 E):=(HE.block (ak _ _ _ le)).block (H.block eb (by simp;omega) (λh=>(HK eb h.symm).1 rfl));have a7:Hid (dy (λk=>k=eb\/(Value.slice ad n cap).ownBlock=some k) w w6):=dy.trans (S1:=λk=>(Value.slice ad n cap).ownBlock=some k) (gF (dk _ w) _) ⟨H.os,H.tape,H.output,H.size,λk J hn=>H.block k J (λe=>hn e.symm)⟩ (λk h _=>ab h);obtain⟨a3,a9⟩:=y.cells 43 (by omega);clear ho H)
 all_goals
  go_wp2_with fail
  go_end0;refine⟨rfl,g,c,dD Z (λk h=>?_),y.ep 43 _,bm a7 (ag (ag rfl)) _,a4⟩;exact af _ _ _ _ (eL Z y (by decide) k h)
def xO(s:ByteArray)(gs:Nat->Nat):Nat->Value:=λj=>
 if j % 2=0 then .int .i64 (M.bt s (M.pos s (j / 2)):Int) else .slice (some ⟨gs (j / 2),0,none⟩) (M.bt s (M.pos s (j / 2)+1)) (M.bt s (M.pos s (j / 2)+1))
def rZ(w:World)(s:ByteArray)(z g n m:Nat):Prop:=z<=g/\∃gs:Nat->Nat,Full w g 178 (n*2) (m*2) (xO s gs) /\
 ∀k,k<m->g<gs k/\2<=M.bt s (M.pos s k)/\M.bt s (M.pos s k)<=8/\1<=M.bt s (M.pos s k+1)/\M.bt s (M.pos s k+1)<=200/\Full w (gs k) 183 (M.bt s (M.pos s k+1)*4) (M.bt s (M.pos s k+1)*4) (oG s (M.pos s k+2))
theorem rZ.below{w w':World}{s:ByteArray}{z g n m:Nat}(h:rZ w s z g n m)(o:∀k,z<=k->k<w.heap.size->w'.heap[k]? = w.heap[k]?):rZ w' s z g n m:=by
 obtain⟨i,gs,u,G⟩:=h;refine⟨i,gs,u.block (o g i u.lt),λk y=>?_⟩;obtain⟨a,b,c,d,e,f⟩:=G k y;exact⟨a,b,c,d,e,f.block (o _ (by omega) f.lt)⟩
theorem rZ.kept{w w':World}{s:ByteArray}{z g n m b:Nat}(h:rZ w s z g n m)(o:w.grownBy w' (some b))(y:b<z):rZ w' s z g n m:=
 h.below (λk u i=>o.block k i (by intro e;injection e;omega))
theorem rZ.start{w:World}{s:ByteArray}{z g n:Nat}(hz:z<=g)(h:jB w g 178 (n*2)):rZ w s z g n 0:=
 ⟨hz,λ_=>0,h.full _,λk e=>ch e (Nat.not_lt_zero k)⟩
theorem rZ.xV{w:World}{s:ByteArray}{z g n m:Nat}(h:rZ w s z g n m):jB w g 178 (n*2):=by obtain⟨_,_,h,_⟩:=h;exact h.xV
theorem rZ.more{w:World}{s:ByteArray}{z g n m g':Nat}(h:rZ w s z g n m)(hm:m<n)(Z:g<g')(o:2<=M.bt s (M.pos s m)/\M.bt s (M.pos s m)<=8/\1<=M.bt s (M.pos s m+1)/\M.bt s (M.pos s m+1)<=200)(H:Full w g' 183 (M.bt s (M.pos s m+1)*4) (M.bt s (M.pos s m+1)*4) (oG s (M.pos s m+2))): rZ (w.setCells g (m*2) [.int .i64 (M.bt s (M.pos s m):Int),.slice (some ⟨g',0,none⟩) (M.bt s (M.pos s m+1)) (M.bt s (M.pos s m+1))]) s z g n (m+1):=by
 obtain⟨h0,gs,W,J⟩:=h;have i:Full w g 178 (n*2) (m*2) (xO s (λj=>if j=m then g' else gs j)):=by
  obtain⟨u,c1,Y,G⟩:=W;refine⟨u,c1,Y,λj y=>?_⟩;rw[G j y];unfold xO;have:j / 2≠m:=by omega
  simp only[aa this]
 refine⟨h0,λj=>if j=m then g' else gs j,?_,λk hk=>?_⟩
 .rw[show(m+1)*2=m*2+2 by omega];refine i.I5 (by omega) _ _ ?_ ?_
  .unfold xO;rw[aj (by omega),show m*2 / 2=m by omega]
  unfold xO;rw[aa (by omega),show(m*2+1) / 2=m by omega];simp
 by_cases e:k=m
 .subst e;simp only[aj];refine⟨Z,o.1,o.2.1,o.2.2.1,o.2.2.2,H.block (eU g g' (by omega) _ _ _)⟩
 simp only[aa e];obtain⟨a,b,c,d,e',f⟩:=J k (by omega);exact⟨a,b,c,d,e',f.block (eU g _ (by omega) _ _ _)⟩
def D6(s:ByteArray)(w w':World)(e:Ending)(ok:Bool):Prop:=∃(ad:Option Addr) (n c:Nat),e=.returned (.tuple #[.slice ad n c,.bool ok]) /\
 (ok=true->n=M.bt s 0/\c=n/\1<=n/\n<=8/\∃g,ad=some ⟨g,0,none⟩/\rZ w' s w.heap.size g n n)
theorem Tryz.Fa:(prog.info? 178).map (λi=>(i.zero,i.size,i.bytes))=some (some (.agg #[.int .i64 0,.slice none 0 0]),2,32):=by kernel_rfl
theorem yE(b:Nat)(s:ByteArray)(f r l:Int)(w:World)(h:w.heap[b]? = some (gC s (0:Nat) f r l))(ht:M.tk s 0 1 8=false): Calls prog 56 #[.pointer (some ⟨b,0,none⟩)] w λe w'=>D6 s w w' e false/\∃y u o,w'.heap[b]? = some (gC s (0:Nat) y u o)/\w.grownBy w' (some b):=by
 go_in;have H:Hid (w.heap[b]? = some (gC s (0:Nat) f r l)):=h;go_wp2_with fail
 refine(nz b s 0 1 8 f r l _ _ _ H (by omega) rfl rfl ht).mono ?_;rintro e w1 ⟨rfl,i,J⟩;have G:Hid (w1.heap[b]? = some (gC s (0:Nat) f r l)):=i;go_wp2_with fail
 go_ret2
 exact⟨⟨_,_,_,rfl,λh=>by cases h⟩,f,r,l,G,J⟩
theorem wZ(b:Nat)(s:ByteArray)(f r l:Int)(w:World)(h:w.heap[b]? = some (gC s (0:Nat) f r l))(hs:s.size<=maxLen)(aC:b≠0)(hT:mB w)(ht:M.tk s 0 1 8=true): Calls prog 56 #[.pointer (some ⟨b,0,none⟩)] w λe w'=>D6 s w w' e (M.jO s).2/\∃f' r' l',w'.heap[b]? = some (gC s ((M.jO s).1:Nat) f' r' l')/\w.grownBy w' (some b):=by
 have hb:=bz h;have aO:s.size<=9223372036854775807:=by unfold maxLen at hs;omega
 have H:Hid (w.heap[b]? = some (gC s (0:Nat) f r l)):=h;have HS:Hid (s.size<=maxLen):=hs;have HT:Hid (M.tk s 0 1 8=true):=ht;have aL:Hid (mB w):=hT;obtain⟨hp,q1,q2⟩:=M.fK ht;clear h hs ht hT;go_in;go_wp2_with fail
 refine(jH b s 0 1 8 f r l _ _ _ H.out HS.out rfl rfl HT.out).mono ?_;rintro e w1 ⟨rfl,hh,hg⟩;have HH:Hid (w1.heap[b]? = some (gC s ((0+1:Nat):Int) f r l)):=hh;obtain⟨_,_,x2,_,_⟩:=eR hh;obtain⟨_,y2,_,_⟩:=gU hh;clear hh;generalize hF:M.bt s 0=F at *;have HF:Hid (M.bt s 0=F):=hF;clear hF;obtain⟨i0,hi,aH,aF,aD⟩:=info_parts Tryz.Fa;go_wp2_with (at_make;refine wpList_make_full _ rfl _ _ 92 rfl 0 178 i0 _ 2 underlying92 hi aH aF _ _ _ _ F rfl rfl rfl rfl (by rw[aD];omega) (by unfold maxLen;omega) (dc _) ?_)
 intro w3 a0 a7;have u:(w1.setCell ⟨b,2,none⟩ (.int .i64 F)).grownBy w3 (some b):=eD a7;have gA:w.grownBy (w1.setCell ⟨b,2,none⟩ (.int .i64 F)) (some b):=bp hg (ag rfl) _;have KB:Hid (w3.heap[b]? = some (gC s ((1:Nat):Int) F r l)):=by
  show _=_;rw[a7.block b (by have:=bz HH.out;simpa[World.setCell] using this) (by intro e;cases e)];exact CD HH.out _
 have KG:Hid (w.grownBy w3 (some b)):=an gA u;have aK:w.heap.size<=w1.heap.size:=hg.size;have KW:Hid (rZ w3 s w.heap.size w1.heap.size F 0):=rZ.start aK (jB.owned a0);clear a0 a7 u gA HH x2 y2 hg;generalize w1.heap.size=g at *;have y:Hid (M.jO s=((M.fns s F 1 F).1,(M.fns s F 1 F).2 && decide ((M.fns s F 1 F).1=s.size))):=by
  show _=_;unfold M.jO;rw[aj HT.out,HF.out]
 go_wp2_with fail
 go_loopw [23] (λi wr=>∃(k q:Nat) (r' l':Int),k<=F/\q<=s.size/\i=.int .i64 k/\Hid (wr.heap[b]? = some (gC s q F r' l'))/\Hid (w.grownBy wr (some b))/\Hid (rZ wr s w.heap.size g F k)/\Hid (q=M.pos s k)/\Hid (M.fns s F q (F-k)=M.fns s F 1 F)) (λi _=>F-(intOf i).toNat)
 case atStart=>exact⟨0,1,r,l,by omega,by omega,rfl,KB,KG,KW,rfl,rfl⟩
 case round=>
  obtain⟨k,q,r',l',hk,hq,rfl,rB,rG,rW,rQ,rC⟩:=hrel;clear KB KG KW;by_cases aG:k<F
  .go_wp2_with fail
   refine(tX b s q F F r' l' _ rB.out HS.out hq aC (aL.out.kept rG.out aC) rfl q1 q2).mono ?_;rintro e w4 ⟨⟨x,ad,n,c,rfl,hA⟩,r4,l4,hh,u⟩;have aE:g<wr.heap.size:=rW.out.xV.lt;have HA:Hid ((M.fn s q F).2=true->x=(M.bt s q:Int)/\n=M.bt s (q+1)/\c=n/\∃g',g<g'/\ad=some ⟨g',0,none⟩/\Full w4 g' 183 (n*4) (n*4) (oG s (q+2))):=λh=>by
    obtain⟨a1,a2,a3,g',a4,a5,a6⟩:=hA h;exact⟨a1,a2,a3,g',by omega,a5,a6⟩
   clear hA aE;have G:Hid (rZ w4 s w.heap.size g F k):=rW.out.kept u hb;have Z:Hid (w4.heap[b]? = some (gC s ((M.fn s q F).1:Nat) F r4 l4)):=hh;have W:Hid (w.grownBy w4 (some b)):=an rG.out u;clear hh u rB rG rW
   cases hok:(M.fn s q F).2
   .have Y:Hid (M.fns s F 1 F=((M.fn s q F).1,false)):=by
     show _=_;rw[<-rC.out,show F-k=(F-(k+1))+1 by omega];unfold M.fns;rw[aa (by rw[hok];simp)]
    clear rC hok;simp only[];iterate 13 (first|go_values|go_skip|go_guarded|go_step|go_upon|go_back)
    refine wpList_store_mid rfl 178 (.tmp 33) (.tmp 31) rfl g (k*2) #[.int .i64 x,.slice ad n c] rfl rfl (G.out.xV.there _ _ (by simp;omega)) (by kernel_rfl) (by simp[Value.oneCell']) ?_;have a9:∃J,J=w4.setCells g (k*2) #[Value.int .i64 x,.slice ad n c].toList:=⟨_,rfl⟩;obtain⟨J,o⟩:=a9;have aA:Hid (J.heap[b]? = some (gC s ((M.fn s q F).1:Nat) F r4 l4)):=by show _=_;rw[o,eU g b (by omega)];exact Z.out
    have a8:Hid (w.grownBy J (some b)):=by show World.grownBy _ _ _;rw[o];exact gM g _ _ _ _ W (by omega)
    rw[<-o];clear o Z W G;go_wp2_with fail
    go_ret2
    refine⟨?_,F,r4,l4,?_,a8⟩
    .rw[y.out,Y.out];exact⟨_,_,_,rfl,λh=>by cases h⟩
    rw[y.out,Y.out];exact aA
   have Y:Hid (M.fns s F (M.fn s q F).1 (F-(k+1))=M.fns s F 1 F):=by
    show _=_;rw[<-rC.out,show F-k=(F-(k+1))+1 by omega];conv=>rhs;unfold M.fns
    rw[aj hok]
   have aI:=(M.JB (s:=s) (p:=q) (f:=F) hq).2;have aB:Hid ((M.fn s q F).2=true):=hok;have KQ:Hid ((M.fn s q F).1=M.pos s (k+1)):=by
    show _=_;rw[(M.tw hok).1,rQ.out,M.pos]
   clear rC hok;simp only[];iterate 13 (first|go_values|go_skip|go_guarded|go_step|go_upon|go_back)
   refine wpList_store_mid rfl 178 (.tmp 33) (.tmp 31) rfl g (k*2) #[.int .i64 x,.slice ad n c] rfl rfl (G.xV.there _ _ (by simp;omega)) (by kernel_rfl) (by simp[Value.oneCell']) ?_;have a9:∃J,J=w4.setCells g (k*2) #[Value.int .i64 x,.slice ad n c].toList:=⟨_,rfl⟩;obtain⟨J,o⟩:=a9;have aA:Hid (J.heap[b]? = some (gC s ((M.fn s q F).1:Nat) F r4 l4)):=by show _=_;rw[o,eU g b (by omega)];exact Z
   have a8:Hid (w.grownBy J (some b)):=by show World.grownBy _ _ _;rw[o];exact gM g _ _ _ _ W (by omega)
   have aN:Hid (rZ J s w.heap.size g F (k+1)):=by
    show rZ _ _ _ _ _ _;obtain⟨a1,a2,a3,g',a4,a5,a6⟩:=HA aB;have aM:=rQ.out;have hy:=M.tw aB;rw[aM]at a1 a2 a6 hy;subst a1 a3 a5;rw[a2]at a6;rw[o,a2];exact G.more aG a4 hy.2 a6
   rw[<-o];clear o Z W G HA aB rQ;generalize (M.fn s q F).1=q' at *;go_wp2_with fail
   go_roundw
   case rel=>exact⟨k+1,q',r4,l4,by omega,aI,by go_num,aA,a8,aN,KQ,Y⟩
   case measure=>simp[intOf];omega
  obtain rfl:k=F:=by omega
  have Y:Hid (M.fns s k 1 k=(q,true)):=by
   show _=_;rw[<-rC.out,Nat.sub_self];rfl
  clear rC;obtain⟨x0,x1,_,_,_⟩:=eR rB;by_cases he:q=s.size
  .have aJ:((q:Int) == (s.size:Int))=true:=by simp;omega
   have HE:Hid (q=s.size):=he;clear he;go_wp2_with fail
   go_quiet (fail)
   go_wp2_with fail
   go_ret2
   refine⟨?_,k,r',l',?_,db rG _⟩
   .rw[y.out,Y.out,HE.out];simp;exact⟨_,_,_,rfl,λ_=>⟨by rw[HF.out],rfl,q1,q2,g,rfl,rW.below (λ_ _ _=>rfl)⟩⟩
   rw[y.out,Y.out];exact rB
  have aJ:((q:Int) == (s.size:Int))=false:=by simp;omega
  go_wp2_with fail
  go_quiet (fail)
  go_wp2_with fail
  go_ret2
  refine⟨?_,k,r',l',?_,db rG _⟩
  .rw[y.out,Y.out];simp[he];exact⟨_,_,_,rfl,λh=>by cases h⟩
  rw[y.out,Y.out];exact rB
theorem xd(b:Nat)(s:ByteArray)(f r l:Int)(w:World)(h:w.heap[b]? = some (gC s (0:Nat) f r l))(G:s.size<=maxLen)(i:b≠0)(y:mB w): Calls prog 56 #[.pointer (some ⟨b,0,none⟩)] w λe w'=>D6 s w w' e (M.jO s).2/\∃u o H,w'.heap[b]? = some (gC s ((M.jO s).1:Nat) u o H)/\w.grownBy w' (some b):=by
 by_cases ht:M.tk s 0 1 8=true
 .exact wZ b s f r l w h G i y ht
 have e:M.jO s=(0,false):=by unfold M.jO;rw[aa ht]
 rw[e];exact yE b s f r l w h (by simpa using ht)
theorem qh{S:Nat->Prop}{w:World}(g:Nat)(e:S g):∀{w1:World} (i:List Value) (o:Nat),dy S w w1->dy S w (w1.setCells g o i)
 | _,[],_,h=>h
 | _,_ :: r,o,h=>qh g e r (o+1) (bm h (ag e) _)
def gh(u v:B.V):Nat->B.V:=λi=>if i=0 then u else if i=1 then v else(0,0)
def FO(w w':World)(tb s0 c0 r0 m ck:Nat)(ao:Option Addr)(fs:List Value)(bk:Value)(u v:B.V)(Tk:Nat->Value):Prop:=
 ∃kb ck' fb rb,Full w' tb 160 7 7 (ep Tk 1 (.slice (some ⟨kb,0,none⟩) (m+1) ck'))/\w'.ownsRow 0 184 1 (.slice (some ⟨kb,0,none⟩) (m+1) ck') (m+1) (fs++[P0 fb])/\Fr w' fb s0 c0 0 rb r0 bk (gh u v)/\w.heap.size<=fb/\w.heap.size<=rb/\dy (λk=>k=tb\/(Value.slice ao m ck).ownBlock=some k) w w'/\((Value.slice ao m ck).ownBlock=some kb\/w.heap.size<=kb)
theorem Hy(eb tb g nf y c0 r0 f m ck:Nat)(ao:Option Addr)(fs:List Value)(k:Fn)(ka kc:Array Value)(u v:B.V)(Tk:Nat->Value)(w:World)(h0:w.cell? ⟨eb,0,none⟩=some (.slice (some ⟨g,0,none⟩) nf nf))(Z:w.cell? ⟨g,f*2,none⟩=some (.int .i64 r0))(h2:w.cell? ⟨g,f*2+1,none⟩=some (.slice (some ⟨y,0,none⟩) c0 c0))(hT:Full w tb 160 7 7 Tk)(b7:Tk 1=.slice ao m ck)(hK:w.ownsRow 0 184 1 (.slice ao m ck) m fs)(hm:m<=1000)(he:eb<w.heap.size)(hg:g<w.heap.size)(hf:f<nf)(hr:2<=r0)(c7:r0<=8): Calls prog 119 #[P0 eb,P0 tb,.int .i64 f,vA u,vA v,.func k ka kc] w λe w'=>e=.returned (.tuple #[])/\FO w w' tb y c0 r0 m ck ao fs (.func k ka kc) u v Tk:=by
 obtain⟨u1,u2⟩:=u;obtain⟨v1,v2⟩:=v;obtain⟨i0,hi,aV,aR,aZ⟩:=info_parts Tryz.rE;have c5:(f:Int)<(nf:Int):=by omega
 have bQ:=hT.lt;have HT:=az hT;have aK:=az b7;have HK:=az hK;clear hT b7 hK;have bV:eb<w.heap.size+1:=by omega
 have bW:g<w.heap.size+1:=by omega
 go_in;go_wp2_with (at_make;go_loud (refine wpList_make_full _ rfl _ _ 137 rfl 0 149 i0 _ 2 underlying137 hi aV aR _ _ _ _ r0 rfl rfl rfl rfl (by rw[aZ];omega) (by unfold maxLen;omega) (dc _) ?_))
 intro w3 aH Y;have hz:=Y.size;simp at hz;have b4:=A7 aH;have bD:(w.alloc (.cells #[.int .i64 (u1:Int),.int .i64 u2] 149)).heap.size=w.heap.size+1:=by simp
 have x0:=cm Y (show(((w.alloc (.cells #[.int .i64 (u1:Int),.int .i64 u2] 149)).alloc (.cells #[.int .i64 (v1:Int),.int .i64 v2] 149)).alloc (.cells #[.int .i64 (r0:Int),.slice (some ⟨y,0,none⟩) c0 c0] 178)).heap[w.heap.size]? = some (.cells #[.int .i64 (u1:Int),.int .i64 u2] 149 (0,0)) by rw[ak _ _ _ (by simp;omega),ak _ _ _ (by simp)];exact bf _ _) (by intro e;cases e);have x1:=cm Y (show(((w.alloc (.cells #[.int .i64 (u1:Int),.int .i64 u2] 149)).alloc (.cells #[.int .i64 (v1:Int),.int .i64 v2] 149)).alloc (.cells #[.int .i64 (r0:Int),.slice (some ⟨y,0,none⟩) c0 c0] 178)).heap[w.heap.size+1]? = some (.cells #[.int .i64 (v1:Int),.int .i64 v2] 149 (0,0)) by rw[ak _ _ _ (by simp),<-bD];exact bf _ _) (by intro e;cases e);have x2:=cm Y (show(((w.alloc (.cells #[.int .i64 (u1:Int),.int .i64 u2] 149)).alloc (.cells #[.int .i64 (v1:Int),.int .i64 v2] 149)).alloc (.cells #[.int .i64 (r0:Int),.slice (some ⟨y,0,none⟩) c0 c0] 178)).heap[w.heap.size+1+1]? = some (.cells #[.int .i64 (r0:Int),.slice (some ⟨y,0,none⟩) c0 c0] 178 (0,0)) by(have:=bf ((w.alloc (.cells #[.int .i64 (u1:Int),.int .i64 u2] 149)).alloc (.cells #[.int .i64 (v1:Int),.int .i64 v2] 149)) (.cells #[.int .i64 (r0:Int),.slice (some ⟨y,0,none⟩) c0 c0] 178);simpa using this)) (by intro e;cases e);have b6:Hid (w.grownBy w3 none):=an (by repeat (first|exact ax _ _|refine au ?_ _)) Y;have H:Full w3 (w.heap.size+1+1+1) 149 (r0*2) (r0*2) (eC (λ_=>(0,0))):=by simpa using b4
 have aW:=az H;have a0:w3.cell? ⟨w.heap.size,0,none⟩=some (.int .i64 (u1:Int)):=by simp[World.cell?,x0]
 have a1:w3.cell? ⟨w.heap.size,1,none⟩=some (.int .i64 u2):=by simp[World.cell?,x0]
 have b0:w3.cell? ⟨w.heap.size+1,0,none⟩=some (.int .i64 (v1:Int)):=by simp[World.cell?,x1]
 have b1:w3.cell? ⟨w.heap.size+1,1,none⟩=some (.int .i64 v2):=by simp[World.cell?,x1]
 obtain⟨k0,e0⟩:=H.cells 0 (by omega);obtain⟨k1,e1⟩:=H.cells 1 (by omega);obtain⟨k2,e2⟩:=H.cells 2 (by omega);obtain⟨k3,e3⟩:=H.cells 3 (by omega);rw[mf]at k0 k1 k2 k3
 have c2:(1:Int)<(r0:Int):=by omega
 have bB:=az x2;clear aH Y b4 H x0 x1 x2 h0 Z h2 bD;go_wp2_with fail
 go_region
 generalize a8:World.drew ((((w3.setCell ⟨w.heap.size+1+1+1,0,none⟩ (.int .i64 (u1:Int))).setCell ⟨w.heap.size+1+1+1,1,none⟩ (.int .i64 u2)).setCell ⟨w.heap.size+1+1+1,2,none⟩ (.int .i64 (v1:Int))).setCell ⟨w.heap.size+1+1+1,3,none⟩ (.int .i64 v2))=i;have hb:∀b,b≠w.heap.size+1+1+1->i.heap[b]? = w3.heap[b]?:=by
  intro b hb;rw[<-a8];show(World.setCell _ _ _).heap[b]? = _;repeat (rw[af _ _ _ _ (by simpa using hb)])
 have aA:Hid (Full i (w.heap.size+1+1+1) 149 (r0*2) (r0*2) (eC (gh (u1,u2) (v1,v2)))):=by
  show Full _ _ _ _ _ _;rw[<-a8];refine Full.congr (show Full (World.drew _) _ _ _ _ _ from(((aW.out.ep 0 (.int .i64 (u1:Int))).ep 1 (.int .i64 u2)).ep 2 (.int .i64 (v1:Int))).ep 3 (.int .i64 v2)) (λj _=>?_);by_cases j3:j<4
  .rcases(show j=0\/j=1\/j=2\/j=3 by omega) with rfl|rfl|rfl|rfl<;>rfl
  rw[eG _ _ _ _ (by omega),eG _ _ _ _ (by omega),eG _ _ _ _ (by omega),eG _ _ _ _ (by omega)];have e:gh (u1,u2) (v1,v2) (j / 2)=(0,0):=by unfold gh;rw[aa (by omega),aa (by omega)]
  unfold eC;rw[e]
 have bG:i.heap.size=w3.heap.size:=by rw[<-a8];simp[World.setCell,World.drew]
 have aB:Hid (w.grownBy i none):=by
  rw[<-a8];repeat (first|exact b6.out|refine bq ?_|refine bp ?_ (ab (by simp;omega)) _)
 have aE:=az (HT.out.block (aB.out.block tb bQ (by intro e;cases e)));have aM:=az (dD HK.out (λk h=>aB.out.block k (dA HK.out k h).2.1 (by intro e;cases e)));have x2:=(hb (w.heap.size+1+1) (by omega)).trans bB.out;have f1:i.cell? ⟨w.heap.size+1+1,1,none⟩=some (.slice (some ⟨y,0,none⟩) c0 c0):=by simp[World.cell?,x2]
 obtain⟨t1,z1⟩:=aE.out.cells 1 (by omega);rw[aK.out]at t1;have aU:=aE.out.lt
 clear bG a8 hb x2 bB aW b6 a0 a1 b0 b1 k0 k1 k2 k3 e0 e1 e2 e3 hi aV aR aZ i0;obtain⟨j0,hj,bT,b8,bJ⟩:=info_parts Tryz.Dr;have kt:∀x,(Value.slice ao m ck).ownBlock=some x->x≠tb:=λx h=>eL HK.out HT.out (by decide) x h;have aJ:(ck<m+1/\(ao=none->m=0/\ck=0))\/(m+1<=ck/\∃G,ao=some ⟨G,0,none⟩):=by
  rcases HK.out.2 with⟨h,h0⟩|⟨g',c',bO,Z,_,_,h4,_⟩
  .injection h with a1 a2 a3;exact ag ⟨by omega,λ_=>⟨a2,a3⟩⟩
  injection Z with a1 a2 a3;by_cases bN:m+1<=ck
  .exact ab ⟨bN,g',a1⟩
  exact ag ⟨by omega,λe=>by rw[a1]at e;cases e⟩
 have hW:∀x,x<i.heap.size->(((i.alloc (ij y c0 0 (w.heap.size+1+1+1) r0 (.func k ka kc))).alloc (.cells #[P0 i.heap.size] 184)).drew).heap[x]? = i.heap[x]?:=λx hx=>(ak _ _ _ (by simp;omega)).trans (ak _ _ _ hx);have aG:(((i.alloc (ij y c0 0 (w.heap.size+1+1+1) r0 (.func k ka kc))).alloc (.cells #[P0 i.heap.size] 184)).drew).heap.size=i.heap.size+2:=by show(World.alloc _ _).heap.size=_;simp
 have aC:(((i.alloc (ij y c0 0 (w.heap.size+1+1+1) r0 (.func k ka kc))).alloc (.cells #[P0 i.heap.size] 184)).drew).heap[i.heap.size]? = some (ij y c0 0 (w.heap.size+1+1+1) r0 (.func k ka kc)):=by show(World.alloc _ _).heap[_]? = _;rw[ak _ _ _ (by simp)];exact bf _ _
 have aP:(((i.alloc (ij y c0 0 (w.heap.size+1+1+1) r0 (.func k ka kc))).alloc (.cells #[P0 i.heap.size] 184)).drew).cell? ⟨i.heap.size+1,0,none⟩=some (P0 i.heap.size):=by
  have Z:=bf (i.alloc (ij y c0 0 (w.heap.size+1+1+1) r0 (.func k ka kc))) (.cells #[P0 i.heap.size] 184);have h2:(i.alloc (ij y c0 0 (w.heap.size+1+1+1) r0 (.func k ka kc))).heap.size=i.heap.size+1:=by simp
  rw[h2]at Z;have h3:(((i.alloc (ij y c0 0 (w.heap.size+1+1+1) r0 (.func k ka kc))).alloc (.cells #[P0 i.heap.size] 184)).drew).heap[i.heap.size+1]? = some (.cells #[P0 i.heap.size] 184 (0,0)):=Z;simp only[World.cell?,h3];rfl
 have aF:∀j u,[P0 i.heap.size][j]? = some u->(((i.alloc (ij y c0 0 (w.heap.size+1+1+1) r0 (.func k ka kc))).alloc (.cells #[P0 i.heap.size] 184)).drew).cell? ((⟨i.heap.size+1,0,none⟩:Addr).add j)=some u:=λj u hj=>by
  match j,hj with
  | 0,hj=>(simp at hj;subst hj;exact aP)
 have aD:i.grownBy (((i.alloc (ij y c0 0 (w.heap.size+1+1+1) r0 (.func k ka kc))).alloc (.cells #[P0 i.heap.size] 184)).drew) none:=bq (au (au (ax _ _) _) _);rcases aJ with⟨b2,a9⟩|⟨a5,G,rfl⟩
 .have aY:=HK.out.1;have a6:∀b,ao=some b->∀j u,fs[j]? = some u->(((i.alloc (ij y c0 0 (w.heap.size+1+1+1) r0 (.func k ka kc))).alloc (.cells #[P0 i.heap.size] 184)).drew).cell? (b.add j)=some u:=λb hb j u hu=>by
   subst hb;rcases aM.out.2 with⟨h,_⟩|⟨g',c',bO,Z,_⟩
   .cases h
   injection Z with Z _ _;injection Z with Z;subst Z;obtain⟨_,_,_,_,hB,hc⟩:=iG aM.out;have h2:=hc j u hu;have h3:(((i.alloc (ij y c0 0 (w.heap.size+1+1+1) r0 (.func k ka kc))).alloc (.cells #[P0 i.heap.size] 184)).drew).cell? ⟨g',j,none⟩=some u:=by
    simp only[World.cell?]at h2 ⊢;rw[hW g' hB.lt];exact h2
   cases j with
   | zero=>simpa[Addr.add] using h3
   | succ j=>simpa[Addr.add] using h3
  have aI:=az (ay a9 (ay aY a6));have o:=az (ay aG (ay aC (ay aF aD)));clear a9 aY a6 hW aG aC aP aF aD;go_wp2_with fail
  go_region_law (refine step_append_grows rfl (.tmp 34) (.tmp 41) 156 rfl 184 j0 (.pointer none) 1 8 underlying156 hj bT b8 bJ rfl (by decide) ao m ck fs (by first|rfl|simp[Act.eval,Act.put]) aI.out.1 aI.out.2.1 aI.out.2.2 ⟨i.heap.size+1,0,none⟩ 1 1 [P0 i.heap.size] (by first|rfl|simp[Act.eval,Act.put]) rfl o.out.2.2.1 (by simp[Value.oneCell']) b2 (by unfold maxLen;omega) (by omega) ?_;intro v' w6 ho hg;obtain⟨G,bE,rfl⟩:=dM ho (by omega);have c3:=o.out.1▸(iG ho).1;have aO:=az (an o.out.2.2.2 hg);have bM:Hid (w6.heap[i.heap.size]? = some (ij y c0 0 (w.heap.size+1+1+1) r0 (.func k ka kc))):=cm hg o.out.2.1 (by intro e;cases e);have b5:=az (gw ho (dc _));have J:=az (aE.out.block (aO.out.block tb aU (by intro e;cases e)));obtain⟨d1,bL⟩:=J.out.cells 1 (by omega);have bH:=J.out.lt;clear ho hg)
  all_goals
   go_wp2_with fail
   go_end0;have aL:w.heap.size+1+1+1≠tb:=by omega
   have b9:=aA.out.lt;refine⟨rfl,G,bE,i.heap.size,w.heap.size+1+1+1,J.out.ep 1 _,dD b5.out (λx h=>af _ _ _ _ (eL b5.out J.out (by decide) x h)),⟨(af _ _ _ _ (show i.heap.size≠tb by omega)).trans bM.out,(aA.out.block (aO.out.block _ aA.out.lt (by intro e;cases e))).off aL,by omega⟩,by omega,by omega,bm (dU (an aB.out aO.out)) (ag (ag rfl)) _,ab (by omega)⟩
 obtain⟨_,bZ,bC,aS,a7,b3⟩:=iG aM.out;have aT:∀j,j < [P0 i.heap.size].length->((((i.alloc (ij y c0 0 (w.heap.size+1+1+1) r0 (.func k ka kc))).alloc (.cells #[P0 i.heap.size] 184)).drew).cell? ⟨G,0+m*1+j,none⟩).isSome=true/\(((i.alloc (ij y c0 0 (w.heap.size+1+1+1) r0 (.func k ka kc))).alloc (.cells #[P0 i.heap.size] 184)).drew).frozen? ⟨G,0+m*1+j,none⟩=false:=λj hj=>by
  have bR:j=0:=by simpa using hj
  subst bR;obtain⟨⟨v,h⟩,hf⟩:=a7.cell (0+m*1+0) (by omega);have hk:=hW G a7.lt;constructor
  .simp only[World.cell?]at h ⊢;rw[hk,h];rfl
  simp only[World.frozen?]at hf ⊢;rw[hk];exact hf
 have o:=az (ay aG (ay aC (ay aF (ay aD (ay aT hW)))));have W:=az (ay bC (ay aS (ay a7 b3)));have bK:G≠tb:=kt G rfl;have aQ:=a7.lt;clear hW aG aC aP aF aD aT bC aS a7 b3;go_wp2_with fail
 go_region_law (refine step_append_room rfl (.tmp 34) (.tmp 41) 156 rfl 184 j0 1 underlying156 hj b8 G 0 m ck (by first|rfl|simp[Act.eval,Act.put]) ⟨i.heap.size+1,0,none⟩ 1 1 [P0 i.heap.size] (by first|rfl|simp[Act.eval,Act.put]) rfl o.out.2.2.1 (by simp[Value.oneCell']) a5 o.out.2.2.2.2.1 ?_;generalize aX:World.setCells _ G _ _=w6;have a4:Hid (w6=(((i.alloc (ij y c0 0 (w.heap.size+1+1+1) r0 (.func k ka kc))).alloc (.cells #[P0 i.heap.size] 184)).drew).setCells G (0+m*1) [P0 i.heap.size]):=aX.symm;clear aX;have aN:Hid (∀x,x≠G->w6.heap[x]? = (((i.alloc (ij y c0 0 (w.heap.size+1+1+1) r0 (.func k ka kc))).alloc (.cells #[P0 i.heap.size] 184)).drew).heap[x]?):=(λx hx=>by rw[a4.out];exact eU G x hx _ _ _);have J:=az (aE.out.block ((aN.out tb (λe=>bK e.symm)).trans (o.out.2.2.2.2.2 tb aU)));obtain⟨d1,bL⟩:=J.out.cells 1 (by omega);have bH:=J.out.lt)
 all_goals
  rw[aK.out]at d1;go_wp2_with fail
  go_end0;have aL:w.heap.size+1+1+1≠tb:=by omega
  have b9:=aA.out.lt;have bI:w.heap.size+1+1+1≠G:=by
   have:=(dA HK.out G rfl).2.1;omega
  have c4:w6.heap.size=i.heap.size+2:=by rw[a4.out,lK];exact o.out.1
  have bA:w6.ownsRow 0 184 1 (.slice (some ⟨G,0,none⟩) (m+1) ck) (m+1) (fs++[P0 i.heap.size]):=by
   refine qf (dc _) a5 W.out.1 (by simp[W.out.2.1]) ?_ (λj x hx=>?_)
   .rw[a4.out];refine jB.Ex G _ _ _ ?_;obtain⟨cu,q1,q2⟩:=W.out.2.2.1;exact⟨cu,(o.out.2.2.2.2.2 G aQ).trans q1,q2⟩
   rw[a4.out];by_cases hj:j<m
   .rw[World.cell?_setCells_out G _ _ _ _ (λ_ _=>ag (by show j<0+m*1;omega))];rw[du (by rw[W.out.2.1];exact hj)]at hx;have h2:=W.out.2.2.2 j x hx;simp only[World.cell?]at h2 ⊢;rw[o.out.2.2.2.2.2 G aQ];exact h2
   have bP:j=m:=by
    have:=(bu.1 hx).1;simp[W.out.2.1]at this;omega
   subst bP;rw[dX (by rw[W.out.2.1];exact bj _),W.out.2.1,Nat.sub_self]at hx;have:=World.cell?_setCells_in G [P0 i.heap.size] (0+j*1) (((i.alloc (ij y c0 0 (w.heap.size+1+1+1) r0 (.func k ka kc))).alloc (.cells #[P0 i.heap.size] 184)).drew) (λt ht=>(o.out.2.2.2.2.1 t ht).1) 0 (by simp);rw[show(0+j*1+0)=j by omega]at this;rw[this];exact hx
  have bF:dy (λx=>x=tb\/(Value.slice (some ⟨G,0,none⟩) m ck).ownBlock=some x) w w6:=by
   rw[a4.out];exact qh G (ab rfl) _ _ (dU (an aB.out o.out.2.2.2.1))
  have bS:w6.heap[i.heap.size]? = some (ij y c0 0 (w.heap.size+1+1+1) r0 (.func k ka kc)):=(aN.out _ (by omega)).trans o.out.2.1;refine⟨rfl,G,ck,i.heap.size,w.heap.size+1+1+1,J.out.ep 1 _,dD bA (λx h=>af _ _ _ _ (eL bA J.out (by decide) x h)),⟨(af _ _ _ _ (show i.heap.size≠tb by omega)).trans bS,(aA.out.block ((aN.out _ bI).trans (o.out.2.2.2.2.2 _ b9))).off aL,by omega⟩,by omega,by omega,bm bF (ag (ag rfl)) _,ag rfl⟩
