import Derived.Test.YtnjiinbhbjpfkaaGreatDoorStpA
import Derived.Deep.RegionHeld3
import Derived.Lib.SliceRun
import Derived.LaidEqlPtr
import Derived.Laws.EntriesVeiled
set_option maxRecDepth 100000
set_option maxHeartbeats 0
set_option linter.all false
namespace Go.Proofs.YtnjiinbhbjpfkaaGreatDoor
open Go.RowKit Go.Proofs.Tryz
namespace B
abbrev V:=Nat×Int
abbrev St:=Nat×(Nat->V)×(Nat->List V)
abbrev In:=Nat×Nat×Nat×Nat
abbrev Ev:=Nat×Int
def set(r:Nat->V)(a:Nat)(v:V):Nat->V:=λi=>if i=a then v else r i
theorem ie(r:Nat->V)(a:Nat)(v:V):set r a v a=v:=if_pos rfl
theorem gS(r:Nat->V)(a i:Nat)(v:V)(h:i≠a):set r a v i=r i:=if_neg h
def lay(m:Nat->List V)(p:Nat)(l:List V):Nat->List V:=λk=>if k=p then l else m k
theorem gl(m:Nat->List V)(p:Nat)(l:List V):lay m p l p=l:=if_pos rfl
theorem fq(m:Nat->List V)(p k:Nat)(l:List V)(h:k≠p):lay m p l k=m k:=if_neg h
def Reach(nr:Nat)(s:St)(p:Nat):Prop:=
 ∀S:Nat->Prop,(∀i,i<nr->(s.2.1 i).1≠0->S (s.2.1 i).1)->(∀k,S k->∀v,v∈s.2.2 k->v.1≠0->S v.1)->S p
theorem jj{nr:Nat}{s:St}(i:Nat)(hi:i<nr)(h:(s.2.1 i).1≠0):Reach nr s (s.2.1 i).1:=λ_ e _=>e i hi h
theorem iF{nr:Nat}{s:St}{k:Nat}(i:Reach nr s k){v:V}(o:v∈s.2.2 k)(h:v.1≠0):Reach nr s v.1:=λS u e=>e k (i S u e) v o h
def wide(b c:Nat):Int:=if 256*b+c<32768 then(256*b+c:Nat) else(256*b+c:Nat)-65536
def wrap(x:Int):Int:=(x+9223372036854775808) % 18446744073709551616-9223372036854775808
def Mw(nr n : Nat) (i : In) (s s' : St) (r : Nat) (ev : List Ev) : Prop :=
  let a := i.2.1
  let b := i.2.2.1
  let c := i.2.2.2
  let R := s.2.1
  let M := s.2.2
  match i.1 with
  | 0 => r = 0 ∧ ev = [] ∧ s' = (s.1 + 1, set R a (0, wide b c), M)
  | 1 => r = 0 ∧ ev = [] ∧ s' = (s.1 + 1, set R a (R b), M)
  | 3 => if (R b).1 = 0 ∧ (R c).1 = 0 then r = 0 ∧ ev = [] ∧ s' = (s.1 + 1, set R a (0, wrap ((R b).2 - (R c).2)), M) else r = 3
  | 6 => r = 0 ∧ ev = [] ∧ s' = (s.1 + 1, set R a (0, if R b = R c then 1 else 0), M)
  | 7 => r = 0 ∧ ev = [] ∧ s' = (256 * b + c, R, M)
  | 8 => r = 0 ∧ ev = [] ∧ s' = (if R a = (0, 0) then 256 * b + c else s.1 + 1, R, M)
  | 9 => (Full nr n s ∧ r = 2 ∧ ev = [(5, 0)]) ∨
      (r = 0 ∧ ev = [] ∧ ∃ p M', 1 ≤ p ∧ p ≤ n ∧ ¬ Reach nr s p ∧ (∀ k, Reach nr s k → M' k = M k) ∧ M' p = List.replicate b (0, 0) ∧ s' = (s.1 + 1, set R a (p, 0), M'))
  | 10 => if (R b).1 ≠ 0 ∧ (R c).1 = 0 ∧ 0 ≤ (R c).2 ∧ (R c).2 < (M (R b).1).length then r = 0 ∧ ev = [] ∧ s' = (s.1 + 1, set R a ((M (R b).1).getD (R c).2.toNat (0, 0)), M) else r = 3
  | 11 => if (R a).1 ≠ 0 ∧ (R b).1 = 0 ∧ 0 ≤ (R b).2 ∧ (R b).2 < (M (R a).1).length then r = 0 ∧ ev = [] ∧ s' = (s.1 + 1, R, lay M (R a).1 ((M (R a).1).set (R b).2.toNat (R c))) else r = 3
  | 14 => r = 1 ∧ ev = [(2, if (R a).1 = 0 then (R a).2 else 0)]
  | 20 => if (R a).1 = 0 then r = 0 ∧ ev = [(1, (R a).2)] ∧ s' = (s.1 + 1, R, M) else r = 3
  | _ => r = 3
theorem C4:∀(l m:List Nat),l.Nodup->(∀x,x∈l->x∈m)->l.length<=m.length:=by
 intro l;induction l with
 | nil=>intro m _ _;simp
 | cons a l G=>
  intro m hn u;have o:=u a (by simp);have H:=G (m.erase a) (List.nodup_cons.1 hn).2 (λx y=>by
   have i:x≠a:=λe=>(List.nodup_cons.1 hn).1 (e▸y);exact(List.mem_erase_of_ne i).2 (u x (by simp[y])))
  rw[List.length_erase_of_mem o]at H;have:=List.length_pos_of_mem o;simp;omega
theorem wz(n x:Nat):x∈(List.range n).map (· + 1)↔1<=x/\x<=n:=by
 simp only[List.mem_map,List.mem_range];constructor
 .rintro⟨a,h,rfl⟩;omega
 intro h;exact⟨x-1,by omega,by omega⟩
end B
section
abbrev vA(v:B.V):Value:=.agg #[.int .i64 (v.1:Int),.int .i64 v.2]
def eC(R:Nat->B.V):Nat->Value:=λj=>if j % 2=0 then .int .i64 ((R (j / 2)).1:Int) else .int .i64 (R (j / 2)).2
theorem nE(R:Nat->B.V)(i:Nat):eC R (i*2)=.int .i64 ((R i).1:Int):=by unfold eC;rw[aj (by omega),show i*2 / 2=i by omega]
theorem nD(R:Nat->B.V)(i:Nat):eC R (i*2+1)=.int .i64 (R i).2:=by unfold eC;rw[aa (by omega),show(i*2+1) / 2=i by omega]
def ij(cb L nx rb nr:Nat)(back:Value):Obj:=.cells #[.slice (some ⟨cb,0,none⟩) L L,.int .i64 nx,.slice (some ⟨rb,0,none⟩) nr nr,back] 241 (0,0)
abbrev dZ(op a b c fb tb eb:Nat):Value:=.agg #[.int .u8 op,.int .u8 a,.int .u8 b,.int .u8 c,P0 fb,P0 tb,P0 eb]
theorem ib{w:World}{fb cb L nx rb nr:Nat}{back:Value}(h:w.heap[fb]? = some (ij cb L nx rb nr back)):w.cell? ⟨fb,0,none⟩=some (.slice (some ⟨cb,0,none⟩) L L)/\w.cell? ⟨fb,1,none⟩=some (.int .i64 nx)/\w.cell? ⟨fb,2,none⟩=some (.slice (some ⟨rb,0,none⟩) nr nr)/\w.cell? ⟨fb,3,none⟩=some back/\w.frozen? ⟨fb,1,none⟩=false:=by
 simp[World.cell?,World.frozen?,h,ij]
theorem fH(n:Int)(w:World):Calls prog 61 #[.int .i64 n] w λe w'=>e=.returned (vA (0,n))/\w'=w.alloc (.cells #[.int .i64 0,.int .i64 n] 149):=by
 go_in;go_wp2
 refine da (v:=.agg #[.int .i64 0,.int .i64 n]) (by simp[results,results61,go_sem]) rfl ⟨rfl,rfl⟩
theorem mP(v:B.V)(w:World):Calls prog 198 #[vA v] w λe w'=>e=.returned (.bool (decide (v.1≠0)))/\w.grownBy w' none:=by
 obtain⟨i,G⟩:=v;by_cases h:i=0
 .subst h;go_in;go_wp2_with fail
  go_ret;exact⟨rfl,ah _ _ _⟩
 have u:decide (0<i)=true:=by simp;omega
 have o:decide (i≠0)=true:=by simpa using h
 rw[show(i,G).1=i from rfl,o];have y:=az u;clear h o u;go_in;go_wp2_with fail
 go_ret;refine⟨?_,ah _ _ _⟩;show Ending.returned (Value.bool (decide (0<i)))=_;rw[y.out]
theorem mg(k:Nat)(x:Int)(y:k<=200)(w:World):Calls prog 201 #[vA (k+1,x)] w λe w'=>e=.returned (.int .i64 k)/\w.grownBy w' none:=by
 have o:(k:Int)+1-1=(k:Int):=by omega
 have u:IntKind.i64.wrap (k:Int)=k:=by simp[IntKind.wrap,IntKind.bits,IntKind.signed];omega
 go_in;go_wp2_with fail
 go_ret;exact⟨rfl,ah _ _ _⟩
theorem ft(v:B.V)(w:World):Calls prog 152 #[vA v] w λe w'=>e=.returned (.tuple #[.int .i64 v.2,.bool (decide (v.1=0))])/\w.grownBy w' none:=by
 have u:=mP v;have Y:(!decide (v.1≠0))=decide (v.1=0):=by by_cases h:v.1=0<;>simp[h]
 obtain⟨c,n⟩:=v;simp only at u Y ⊢;generalize decide (c≠0)=d at *;generalize decide (c=0)=d2 at *;have Z:=az u;go_in;go_wp2_with fail
 generalize H:w.alloc (.cells #[.int .i64 c,.int .i64 n] 149)=w1;have J:Hid (w.grownBy w1 none):=by rw[<-H];exact ah _ _ _
 have o:w1.heap[w.heap.size]? = some (.cells #[.int .i64 c,.int .i64 n] 149 (0,0)):=by rw[<-H];exact bf w _
 have c0:w1.cell? ⟨w.heap.size,0,none⟩=some (.int .i64 c):=by simp[World.cell?,o]
 have c1:w1.cell? ⟨w.heap.size,1,none⟩=some (.int .i64 n):=by simp[World.cell?,o]
 have y:=bz o;have HS:Hid (∀w':World,w1.grownBy w' none->w'.cell? ⟨w.heap.size,0,none⟩=some (.int .i64 c)/\w'.cell? ⟨w.heap.size,1,none⟩=some (.int .i64 n)):=
  λw' W=>⟨(bh W (a:=⟨w.heap.size,0,none⟩) y).1.trans c0,(bh W (a:=⟨w.heap.size,1,none⟩) y).1.trans c1⟩
 go_region_held3 (λw'=>w'.cell? ⟨w.heap.size,0,none⟩=some (.int .i64 c)/\w'.cell? ⟨w.heap.size,1,none⟩=some (.int .i64 n)) (first|exact HS _ (bq (ax _ _))|exact HS _ G) (first|(go_at_call 198;refine(Z w1.drew).mono ?_;rintro e w2 ⟨rfl,i⟩;have G:Hid (w1.grownBy w2 none):=⟨i.os,i.tape,i.output,i.size,i.block⟩;clear i))
 all_goals
  go_wp2_with fail
  go_ret2
  exact⟨rfl,an J G⟩
theorem As(op a b c fb tb eb cb L nx rb nr:Nat)(back:Value)(R:Nat->B.V)(w:World)(o:w.heap[fb]? = some (ij cb L nx rb nr back))(i:Full w rb 149 (nr*2) (nr*2) (eC R))(Z:a<nr): Calls prog 98 #[dZ op a b c fb tb eb] w λe w'=>e=.returned (vA (R a))/\w.grownBy w' none:=by
 obtain⟨_,_,c2,_,_⟩:=ib o;have G:=i.cell (a*2) (by omega);have H:=i.cell (a*2+1) (by omega);rw[nE]at G;rw[nD]at H;have W:=bz o;have Y:=i.lt;have u:fb<w.heap.size+1:=by omega
 have y:rb<w.heap.size+1:=by omega
 have J:(a:Int)<nr:=by omega
 go_in;go_wp2_with fail
 go_region
 all_goals
  go_wp2_with fail
  refine da (v:=vA (R a)) (by simp[results,results98,go_sem]) rfl ⟨rfl,?_⟩;repeat (first|exact ax _ _|refine bq ?_|refine au ?_ _)
theorem pO(op a b c fb tb eb cb L nx rb nr:Nat)(back:Value)(R:Nat->B.V)(w:World)(o:w.heap[fb]? = some (ij cb L nx rb nr back))(i:Full w rb 149 (nr*2) (nr*2) (eC R))(Z:b<nr): Calls prog 86 #[dZ op a b c fb tb eb] w λe w'=>e=.returned (vA (R b))/\w.grownBy w' none:=by
 obtain⟨_,_,c2,_,_⟩:=ib o;have G:=i.cell (b*2) (by omega);have H:=i.cell (b*2+1) (by omega);rw[nE]at G;rw[nD]at H;have W:=bz o;have Y:=i.lt;have u:fb<w.heap.size+1:=by omega
 have y:rb<w.heap.size+1:=by omega
 have J:(b:Int)<nr:=by omega
 go_in;go_wp2_with fail
 go_region
 all_goals
  go_wp2_with fail
  refine da (v:=vA (R b)) (by simp[results,results86,go_sem]) rfl ⟨rfl,?_⟩;repeat (first|exact ax _ _|refine bq ?_|refine au ?_ _)
theorem qJ(op a b c fb tb eb cb L nx rb nr:Nat)(back:Value)(R:Nat->B.V)(w:World)(o:w.heap[fb]? = some (ij cb L nx rb nr back))(i:Full w rb 149 (nr*2) (nr*2) (eC R))(Z:c<nr): Calls prog 94 #[dZ op a b c fb tb eb] w λe w'=>e=.returned (vA (R c))/\w.grownBy w' none:=by
 obtain⟨_,_,c2,_,_⟩:=ib o;have G:=i.cell (c*2) (by omega);have H:=i.cell (c*2+1) (by omega);rw[nE]at G;rw[nD]at H;have W:=bz o;have Y:=i.lt;have u:fb<w.heap.size+1:=by omega
 have y:rb<w.heap.size+1:=by omega
 have J:(c:Int)<nr:=by omega
 go_in;go_wp2_with fail
 go_region
 all_goals
  go_wp2_with fail
  refine da (v:=vA (R c)) (by simp[results,results94,go_sem]) rfl ⟨rfl,?_⟩;repeat (first|exact ax _ _|refine bq ?_|refine au ?_ _)
theorem pj(R:Nat->B.V)(a:Nat)(v:B.V)(j:Nat)(i:j≠a*2)(e:j≠a*2+1):eC (B.set R a v) j=eC R j:=by
 unfold eC;rw[B.gS _ _ _ _ (by omega)]
theorem Full.oD{w:World}{rb nr:Nat}{R:Nat->B.V}(h:Full w rb 149 (nr*2) (nr*2) (eC R))(a:Nat)(v:B.V): Full ((w.setCell ⟨rb,a*2,none⟩ (.int .i64 v.1)).setCell ⟨rb,a*2+1,none⟩ (.int .i64 v.2)) rb 149 (nr*2) (nr*2) (eC (B.set R a v)):=by
 obtain⟨e,H,G,y⟩:=h;refine⟨(e.setIfInBounds (a*2) (.int .i64 v.1)).setIfInBounds (a*2+1) (.int .i64 v.2),?_,by simpa using G,λj u=>?_⟩
 .simp[World.setCell,cn,H]
 rw[Array.getElem?_setIfInBounds,Array.getElem?_setIfInBounds];by_cases o:a*2+1=j
 .subst o;rw[aj rfl,nD,B.ie];simp;omega
 rw[aa o];by_cases i:a*2=j
 .subst i;rw[aj rfl,nE,B.ie];simp;omega
 rw[aa i,pj R a v j (by omega) (by omega)];exact y j u
theorem js(op a b c fb tb eb cb L nx rb nr:Nat)(back:Value)(R:Nat->B.V)(v:B.V)(w:World)(u:w.heap[fb]? = some (ij cb L nx rb nr back))(o:Full w rb 149 (nr*2) (nr*2) (eC R))(ha:a<nr): Calls prog 149 #[dZ op a b c fb tb eb,vA v] w λe w'=>e=.returned (.tuple #[])/\w.grownBy w' (some rb)/\Full w' rb 149 (nr*2) (nr*2) (eC (B.set R a v)):=by
 obtain⟨_,_,c2,_,_⟩:=ib u;have i:=o.xV;obtain⟨_,z0⟩:=i.cell (a*2) (by omega);obtain⟨_,Z⟩:=i.cell (a*2+1) (by omega);have r0:=o.cell (a*2) (by omega);have r1:=o.cell (a*2+1) (by omega);have Y:=bz u;have l1:=o.lt;have y:fb<w.heap.size+1:=by omega
 have G:rb<w.heap.size+1:=by omega
 have H:Hid (Full w rb 149 (nr*2) (nr*2) (eC R)):=o;generalize eC R (a*2)=W at *;generalize eC R (a*2+1)=y1 at *;have J:(a:Int)<nr:=by omega
 go_in;go_wp2_with fail
 go_region
 all_goals
  go_wp2_with fail
  go_end0;refine⟨rfl,?_,?_⟩
  .repeat (first|exact ax _ _|refine bq ?_|refine au ?_ _|refine bp ?_ (ag rfl) _)
  refine(H.oD a v).block ?_;show(World.alloc _ _).heap[rb]? = _;rw[ak _ _ _ (by simp[World.setCell];omega),ak _ _ _ (by simp[World.setCell];omega)]
abbrev xD(op a b c:Nat):Value:=.agg #[.int .u8 op,.int .u8 a,.int .u8 b,.int .u8 c]
theorem BA(fb cb L nx rb nr:Nat)(back:Value)(w:World)(i:w.heap[fb]? = some (ij cb L nx rb nr back)): Calls prog 185 #[P0 fb] w λe w'=>e=.returned (.bool (decide (nx=L)))/\w.grownBy w' none:=by
 obtain⟨c0,c1,_,_,_⟩:=ib i;have o:(((nx:Nat):Int) == (L:Int))=decide (nx=L):=by
  by_cases h:nx=L<;>simp[h]
  omega
 generalize decide (nx=L)=d at *;go_in;go_wp2_with fail
 go_quiet (fail)
 go_wp2_with fail
 go_ret;exact⟨rfl,db (ax _ _) _⟩
theorem ofInt16(a:Nat)(e:a<65536):(BitVec.ofInt 16 (a:Int)).toNat=a:=by
 rw[BitVec.ofInt_natCast,BitVec.toNat_ofNat];exact Nat.mod_eq_of_lt (by omega)
theorem KU(b c:Nat)(y:b<256)(u:c<256):bits BinOp.or IntKind.u16 ((b:Int)*256) (c:Int)=((256*b+c:Nat):Int):=by
 have o:b*256 ||| c=256*b+c:=by
  have:=Nat.shiftLeft_add_eq_or_of_lt (i:=8) (b:=c) (by omega) b;rw[Nat.shiftLeft_eq,show(2:Nat) ^ 8=256 from rfl]at this;omega
 have e:((b:Int)*256)=((b*256:Nat):Int):=by omega
 rw[e];show IntKind.u16.wrap ((BitVec.ofInt 16 ((b*256:Nat):Int) ||| BitVec.ofInt 16 (c:Int)).toNat:Int)=_;rw[BitVec.toNat_or,ofInt16 (b*256) (by omega),ofInt16 c (by omega),o];simp[IntKind.wrap,IntKind.bits,IntKind.signed];omega
theorem xg(op a b c:Nat)(o:b<256)(i:c<256)(w:World):Calls prog 150 #[xD op a b c] w λe w'=>e=.returned (.int .u16 (256*b+c:Nat))/\w'=w.alloc (.cells #[.int .u8 op,.int .u8 a,.int .u8 b,.int .u8 c] 183):=by
 have u:=KU b c o i;generalize 256*b+c=x at *;go_in;go_wp2_with fail
 go_ret;exact⟨rfl,rfl⟩
theorem sq(op a b c:Nat)(y:b<256)(o:c<256)(w:World):Calls prog 154 #[xD op a b c] w λe w'=>e=.returned (.int .i64 (256*b+c:Nat))/\w.grownBy w' none:=by
 have i:=xg op a b c y o;have G:256*b+c<65536:=by omega
 generalize 256*b+c=x at *;have u:Hid (∀w,Calls prog 150 #[xD op a b c] w λe w'=>e=.returned (.int .u16 x)/\w'=w.alloc (.cells #[.int .u8 op,.int .u8 a,.int .u8 b,.int .u8 c] 183)):=i;go_in;go_wp2_with fail
 refine(u.out _).mono ?_;rintro e w1 ⟨rfl,rfl⟩;go_wp2_with fail
 go_ret;exact⟨rfl,au (ah _ _ _) _⟩
theorem xC(op a b c:Nat)(Y:b<256)(G:c<256)(w:World):Calls prog 85 #[xD op a b c] w λe w'=>e=.returned (.int .i64 (B.wide b c))/\w.grownBy w' none:=by
 have i:=xg op a b c Y G;have hx:256*b+c<65536:=by omega
 have hw:B.wide b c=if 256*b+c<32768 then((256*b+c:Nat):Int) else((256*b+c:Nat):Int)-65536:=rfl
 generalize B.wide b c=y at *;generalize 256*b+c=x at *;have W:Hid (∀w,Calls prog 150 #[xD op a b c] w λe w'=>e=.returned (.int .u16 x)/\w'=w.alloc (.cells #[.int .u8 op,.int .u8 a,.int .u8 b,.int .u8 c] 183)):=i;have o:=az hw;clear i hw;have J:IntKind.i16.wrap (x:Int)=y:=by
  rw[o.out];split<;>(simp[IntKind.wrap,IntKind.bits,IntKind.signed];omega)
 have H:-32768<=y/\y<=32767:=by rw[o.out];split<;>omega
 obtain⟨u,Z⟩:=H;go_in;go_wp2_with fail
 refine(W.out _).mono ?_;rintro e w1 ⟨rfl,rfl⟩;go_wp2_with fail
 go_ret;exact⟨rfl,au (ah _ _ _) _⟩
theorem tu{w:World}{fb cb L nx rb nr:Nat}{back:Value}(h:w.heap[fb]? = some (ij cb L nx rb nr back))(y:Nat):(w.setCell ⟨fb,1,none⟩ (.int .i64 y)).heap[fb]? = some (ij cb L y rb nr back):=by
 simp[World.setCell,cn,h,ij]
theorem Ca(fb cb L nx rb nr op a b c:Nat)(back:Value)(w:World)(i:w.heap[fb]? = some (ij cb L nx rb nr back))(y:nx<L)(Z:L<=200)(H:cb<w.heap.size)(k0:w.cell? ⟨cb,nx*4,none⟩=some (.int .u8 op))(k1:w.cell? ⟨cb,nx*4+1,none⟩=some (.int .u8 a))(k2:w.cell? ⟨cb,nx*4+2,none⟩=some (.int .u8 b))(J:w.cell? ⟨cb,nx*4+3,none⟩=some (.int .u8 c)): Calls prog 186 #[P0 fb] w λe w'=>e=.returned (xD op a b c)/\w.grownBy w' (some fb)/\w'.heap[fb]? = some (ij cb L (nx+1) rb nr back):=by
 obtain⟨c0,c1,_,_,Y⟩:=ib i;have W:=bz i;have o:fb<w.heap.size+1:=by omega
 have u:cb<w.heap.size+1:=by omega
 have G:Hid (w.heap[fb]? = some (ij cb L nx rb nr back)):=i;have hi:(nx:Int)<(L:Int):=by omega
 go_in;go_wp2_with fail
 go_region
 all_goals
  go_wp2_with fail
  refine da (v:=xD op a b c) (by simp[results,results186,go_sem]) rfl ⟨rfl,?_,?_⟩
  .repeat (first|exact ax _ _|refine bq ?_|refine au ?_ _|refine bp ?_ (ag rfl) _|refine bp ?_ (ab (by simp)) _)
  show(World.alloc _ _).heap[fb]? = _;rw[ak _ _ _ (by simp[World.setCell];omega),ak _ _ _ (by simp[World.setCell];omega)];have:=tu G.out (nx+1);simpa using this
abbrev Pt(b o:Nat):Value:=.pointer (some ⟨b,o,none⟩)
theorem gP(b o n c:Nat)(ad:Option Addr)(w:World)(h:w.cell? ⟨b,o,none⟩=some (.slice ad n c)): Calls prog 70 #[Pt b o] w λe w'=>e=.returned (.bool (decide (n=0)))/\w'=w:=by
 have i:(((n:Nat):Int) == 0)=decide (n=0):=by
  by_cases h:n=0<;>simp[h]
 generalize decide (n=0)=d at *;go_in;go_wp2_with fail
 go_ret;exact⟨rfl,rfl⟩
theorem qq(b o n c qb tb:Nat)(w:World)(h:w.cell? ⟨b,o,none⟩=some (.slice (some ⟨qb,0,none⟩) (n+1) c))(i:w.cell? ⟨qb,0,none⟩=some (P0 tb)): Calls prog 132 #[Pt b o] w λe w'=>e=.returned (P0 tb)/\w'=w:=by
 go_in;go_wp2_with fail
 go_ret;exact⟨rfl,rfl⟩
theorem uy(eb n c:Nat)(ad:Option Addr)(w:World)(h:w.cell? ⟨eb,29,none⟩=some (.slice ad n c)): Calls prog 66 #[P0 eb] w λe w'=>e=.returned (.bool (decide (0<n)))/\w'=w:=by
 go_in;go_wp2_with fail
 go_ret;exact⟨rfl,rfl⟩
theorem uU(tb:Nat)(w:World)(h:w.cell? ⟨tb,3,none⟩=some (.pointer none)): Calls prog 133 #[P0 tb] w λe w'=>e=.returned (.tuple #[])/\w'=w:=by
 go_in;go_wp2_with fail
 first|go_end0|(simp only[Exit.inBlock,Exit.then];refine da (results_none rfl _ _ _) rfl ?_)|refine da (results_none rfl _ _ _) rfl ?_
 exact⟨rfl,rfl⟩
theorem Tryz.rA:(prog.info? 155).map (λi=>(i.zero,i.size,i.bytes))=some (some (.pointer none),1,8):=by kernel_rfl
theorem Tryz.Ad:(prog.info? 160).map (λi=>(i.zero,i.size,i.bytes))=some (some (.agg #[.int .i64 0,.slice none 0 0,.bool false,.pointer none,.nilFunc,.int .i64 0,.slice none 0 0]),7,88):=by kernel_rfl
theorem mV{P:Program}(w:World)(t ty e:TypeId)(i:TypeInfo)(ht:P.underlying t=some (.slice e))(hi:P.info? e=some i)(o ad:Option Addr)(n cap c:Nat)(u:n<=cap): (Builtin.append_ #[t,t] ty #[.slice o n cap,.slice ad 0 c]).run P w=.ok (.slice o n cap) w:=by
 cases o<;>cases ad<;>simp[Builtin.append_,Builtin.lenOf,Builtin.firstCells,run_underlying ht,sizeOf,typeInfo,hi,u,loadCells,loadCellsFrom,storeCells]
theorem l9{P:Program}{ops:Array Oper}{o:Oper}{a:Act}{w:World}{K:Act->World->Prop}{Q:Exit->Act->World->Prop}{E:Prop}(Z:o.guard=none)(s x:Operand)(t:TypeId)(G:o.op=Op.call { callee:=Callee.builtin Builtin.append,args:=#[s,x],argTypes:=#[t,t] })(e:TypeId)(i:TypeInfo)(J:P.underlying t=some (.slice e))(Y:P.info? e=some i)(u ad:Option Addr)(n cap c:Nat)(W:a.eval s=.slice u n cap)(hx:a.eval x=.slice ad 0 c)(H:n<=cap)(hK:K (a.put o.dst (.slice u n cap)) w): if Region.wanted o (yielded ops a.tmps)=true then Oper.wp P o a w K Q else E:=by
 rw[aj (by simp[Region.wanted,Z])];unfold Oper.wp;simp[execOp,G,resolve,invoke,builtin,W,hx,mV (P:=P) w t o.type e i J Y u ad n cap c H,Result.andThen];exact hK
theorem dD{w w':World}{i size n:Nat}{e:TypeId}{v:Value}{xs:List Value}(h:w.ownsRow i e size v n xs)(y:∀k,v.ownBlock=some k->w'.heap[k]? = w.heap[k]?):w'.ownsRow i e size v n xs:=by
 refine⟨h.1,?_⟩;rcases h.2 with h|⟨g,cap,o,u,J,H,G⟩
 .exact ag h
 exact ab ⟨g,cap,o,u,J,(y g (by rw[u];rfl)).trans H,G⟩
theorem dA{w:World}{i size n:Nat}{e:TypeId}{v:Value}{xs:List Value}(h:w.ownsRow i e size v n xs)(k:Nat)(u:v.ownBlock=some k):i<=k/\k<w.heap.size/\∃o,w.heap[k]? = some (.cells o e (0,0)):=by
 rcases h.2 with⟨h,_⟩|⟨g,cap,o,G,H,y,W⟩
 .rw[h]at u;cases u
 rw[G]at u;have J:g=k:=by injection u
 subst J;exact⟨H,bz y,o,y⟩
theorem eL{w:World}{o size n g Y m':Nat}{e T:TypeId}{v:Value}{xs:List Value}{P:Nat->Value}(h:w.ownsRow o e size v n xs)(J:Full w g T Y m' P)(H:T≠e)(k:Nat)(G:v.ownBlock=some k):k≠g:=by
 rintro rfl;obtain⟨_,_,y,i⟩:=dA h k G;obtain⟨u,W,_⟩:=J;rw[W]at i;injection i with i;injection i with _ i _;exact H i
theorem pU{P:Program}{w:World}{ops:Array Oper}{rest:List Oper}{o:Oper}{a:Act}{Q:Exit->Act->World->Prop}(a6:o.guard=none)(s x:Operand)(t:TypeId)(ho:o.op=.call { callee:=.builtin .append,args:=#[s,x],argTypes:=#[t,t] })(G:Nat)(e:TypeId)(i:TypeInfo)(z:Value)(size bytes:Nat)(ht:P.underlying t=some (.slice e))(hi:P.info? e=some i)(hz:i.zero=some z)(H:i.size=size)(a4:i.bytes=bytes)(a7:z.cells.size=size)(aA:0<size)(g cap:Nat)(n:Nat)(xs:List Value)(hs:a.eval s=.slice (some ⟨g,0,none⟩) n cap)(Z:w.ownsRow G e size (.slice (some ⟨g,0,none⟩) n cap) n xs)(ad:Addr)(m c:Nat)(y:List Value)(hx:a.eval x=.slice (some ad) m c)(hl:y.length=m*size)(W:∀j u,y[j]? = some u->w.cell? (ad.add j)=some u)(h1:∀u∈y,u.oneCell'=true)(a8:n+m<=maxLen)(Y:(n+m)*bytes<=140737488355328)(a0:G<=w.heap.size)(J:n+m<=cap)(h:∀w',w'.ownsRow G e size (.slice (some ⟨g,0,none⟩) (n+m) cap) (n+m) (xs++y)->w.grownBy w' (some g)->wpList P ops Q rest (a.put o.dst (.slice (some ⟨g,0,none⟩) (n+m) cap)) w'):wpList P ops Q (o :: rest) a w:=by
 refine wpList_plain a6 λ_ hK=>?_;obtain⟨v',w',hr,h2,h3,h4⟩:=run_append_own (P:=P) w G t o.type e i z size bytes ht hi hz H a4 a7 aA _ n xs Z ad m c y hl W h1 a8 Y a0;have hv:v'=.slice (some ⟨g,0,none⟩) (n+m) cap:=by
  rcases Z.2 with⟨h,_⟩|⟨g',c',a2,a5,_,a3,aC,aB,a9,_⟩
  .cases h
  cases a5;subst H;have a1:=run_append_room (P:=P) w t o.type e i ht hi g n cap a2 a3 ad m c y hl W h1 J (by rw[hl,a9,<-Nat.add_mul];exact Nat.mul_le_mul_right _ J);rw[hr]at a1;injection a1
 subst hv;unfold Oper.wp execOp;simp only[ho,resolve,invoke,builtin,Sem.run_bind,Sem.run_pure,Result.andThen_ok,List.map_toArray,List.map_cons,List.map_nil,hs,hx,hr];exact hK _ _ (h w' h2 h3)
theorem qf{w:World}{i g n c:Nat}{e:TypeId}{xs:List Value}(J:i<=g)(hn:n<=c)(W:c<=maxLen)(Z:xs.length=n)(H:jB w g e c)(hx:∀j x,xs[j]? = some x->w.cell? ⟨g,j,none⟩=some x):w.ownsRow i e 1 (.slice (some ⟨g,0,none⟩) n c) n xs:=by
 obtain⟨u,y,Y⟩:=H;refine⟨by rw[Z,Nat.mul_one],ab ⟨g,c,u,rfl,J,y,hn,W,by rw[Y,Nat.mul_one],?_⟩⟩;rw[Nat.mul_one];apply List.ext_getElem?
 intro j;by_cases G:j<n
 .obtain⟨x,o⟩:∃x,xs[j]? = some x:=⟨_,bn (by omega)⟩;have:=hx j x o;rw[o,dh,aj G];simp only[World.cell?,y]at this;simpa using this
 rw[cw (by simp;omega),cw (by omega)]
theorem iG{w:World}{i g n c:Nat}{e:TypeId}{xs:List Value}(h:w.ownsRow i e 1 (.slice (some ⟨g,0,none⟩) n c) n xs):i<=g/\n<=c/\c<=maxLen/\xs.length=n/\jB w g e c/\∀j x,xs[j]? = some x->w.cell? ⟨g,j,none⟩=some x:=by
 rcases h with⟨J,⟨h,_⟩|⟨g',c',o,Y,h2,H,h4,Z,y,G⟩⟩
 .cases h
 cases Y;rw[Nat.mul_one]at J y G;refine⟨h2,h4,Z,J,⟨o,H,y⟩,λj x u=>?_⟩;have W:j<n:=by
  have:=(bu.1 u).1;omega
 rw[<-G,dh,aj W]at u;simp only[World.cell?,H];simpa using u
theorem tj{w:World}(g:Nat):∀{w1:World},w.grownBy w1 (some g)->∀(e:List Value) (o:Nat),w.grownBy (w1.setCells g o e) (some g)
 | _,h,[],_=>h
 | _,h,_ :: r,o=>tj g (bp h (ag rfl) _) r (o+1)
theorem mQ{w w':World}(h:w.grownBy w' none)(g:Nat):w.grownBy w' (some g):={ h with block:=λk i _=>h.block k i (by intro e;cases e) }
theorem qm:∀(xs:List Nat) (x j:Nat),xs[j]? = some x->xs.idxOf x<=j
 | [],x,j,h=>by simp at h
 | y :: xs,x,j,h=>by
  rw[List.idxOf_cons];by_cases e:y=x
  .rw[e];simp
  have i:(y == x)=false:=by simpa using e
  rw[i]
  cases j with
  | zero=>simp at h;exact ch h e
  | succ j=>
   have:=qm xs x j (by simpa using h);show xs.idxOf x+1<=j+1;omega
theorem Ck(g c n tb:Nat)(xs:List Nat)(w:World)(hn:n=xs.length)(a3:n<=1000000000)(W:∀j x,xs[j]? = some x->w.cell? ⟨g,j,none⟩=some (P0 x))(Z:jB w tb 160 7)(hX:∀x,x∈xs->jB w x 160 7)(hm:tb∈xs): Calls prog 183 #[.slice (some ⟨g,0,none⟩) n c,P0 tb] w λe w'=>e=.returned (.int .i64 (xs.idxOf tb:Nat))/\w'=w:=by
 obtain⟨i0,hi,a6,J,a1⟩:=info_parts Tryz.Ad;have a2:=λ(w:World)=>run_eql_ptr_same (P:=prog) (w:=w) (tp:=155) (te:=160) ⟨tb,0,none⟩ underlying155 hi;have G:=List.idxOf_lt_length_of_mem hm;have HC:=az W;have HT:=az Z;have HX:=az hX;have HL:=az G;have HN:=az hn;clear W Z hX G hm hn;go_in;go_wp2_with fail
 go_loopw [8] (λi wr=>∃j:Nat,i=.int .i64 j/\j<=xs.idxOf tb/\wr=w) (λi _=>xs.idxOf tb-(intOf i).toNat)
 case atStart=>exact⟨0,rfl,by omega,rfl⟩
 case round=>
  obtain⟨j,rfl,hj,rfl⟩:=hrel;have a4:j<n:=by have:=HL.out;have:=HN.out;omega
  obtain⟨x,y⟩:∃x,xs[j]? = some x:=⟨_,bn (by have:=HN.out;omega)⟩;have cj:=HC j x y;by_cases o:j=xs.idxOf tb
  .have u:x=tb:=by
    have:=List.getElem_idxOf (x:=tb) HL;rw[bu]at y;obtain⟨h1,h2⟩:=y;subst o;rw[<-h2];exact this
   subst u;have HJ:=az o;clear o;go_wp2_with fail
   go_ret;exact⟨by simp[HJ.out],rfl⟩
  have u:x≠tb:=by
   intro e;subst e;have a5:=qm xs x j y;omega
  obtain⟨ct,bt,_⟩:=HT;obtain⟨cx,Y,_⟩:=HX x (ed y);have a0:=run_eql_ptr_other (P:=prog) (w:=wr) (tp:=155) (te:=160) (a:=⟨tb,0,none⟩) (b:=⟨x,0,none⟩) underlying155 hi (by rw[J];decide) (by intro e;injection e with e;exact u e.symm) bt Y;go_wp2_with fail
  go_roundw
  case rel=>exact⟨j+1,by go_num,by omega,trivial⟩
  case measure=>simp[intOf];omega
theorem Cn(g c n i J:Nat)(xs:List Value)(w:World)(a0:w.ownsRow J 155 1 (.slice (some ⟨g,0,none⟩) n c) n xs)(aI:i<n)(h1:∀x,x∈xs->x.oneCell'=true)(aF:n<=1000000000): Calls prog 184 #[.slice (some ⟨g,0,none⟩) n c,.int .i64 (i:Int),.int .i64 ((i:Int)+1)] w λe w'=>e=.returned (.slice (some ⟨g,0,none⟩) (n-1) c)/\w'.ownsRow J 155 1 (.slice (some ⟨g,0,none⟩) (n-1) c) (n-1) (xs.eraseIdx i)/\w.grownBy w' (some g):=by
 obtain⟨hb,hc,hm,hl,hB,y⟩:=iG a0;clear a0;obtain⟨i0,hi,a6,a4,a9⟩:=info_parts Tryz.rA;have hv:∀w,(zeroValue 155).run prog w=.ok (.pointer none) w:=by intro w;simp[zeroValue,typeInfo,hi,a6]
 have W:∀(ty:TypeId) (w1:World) (G:Nat),jB w1 g 155 c->(Builtin.clear_ #[136] ty #[.slice (some ⟨g,n-1,none⟩) 1 G]).run prog w1=.ok (.tuple #[]) (w1.setCell ⟨g,n-1,none⟩ (.pointer none)):=by
  intro ty w1 G a2;refine Go.Lib.run_clear_slice (P:=prog) w1 136 155 ty (.pointer none) underlying136 hv rfl rfl g (n-1) 1 G (by omega) ?_ ?_
  .intro j Z;obtain⟨⟨v,h⟩,_⟩:=a2.cell (n-1+j) (by omega);rw[h];rfl
  intro j Z;exact(a2.cell (n-1+j) (by omega)).2
 have aG:i<=c:=by omega
 have aA:(0:Int)<=(i:Int)+1:=by omega
 have a8:i+1<=c:=by omega
 have aC:(n:Int)<=(c:Int):=by omega
 have aE:(i:Int)+1<=(n:Int):=by omega
 have aH:(c:Int)<=9223372036854775807:=by unfold maxLen at hm;omega
 have HB:=az hB;have HX:=az y;have H1:=az h1;have H:=az hl;have Y:=az W;have HM:=az hm;clear hB y h1 hl W hm;by_cases o:i+1=n
 .obtain rfl:n=i+1:=o.symm;have cl:∀(ty:TypeId) (G:Nat),(Builtin.clear_ #[136] ty #[.slice (some ⟨g,i,none⟩) 1 G]).run prog w.drew=.ok (.tuple #[]) (w.drew.setCell ⟨g,i,none⟩ (.pointer none)):=λty G=>Y.out ty w.drew G HB.out;clear o;go_in;go_wp2_with fail
  go_region_law (refine l9 rfl (.tmp 22) (.tmp 25) 136 rfl 155 i0 underlying136 hi (some ⟨g,0,none⟩) (if c=i+1 then some ⟨g,0,none⟩ else some ⟨g,i+1,none⟩) i c (c-(i+1)) (by first|rfl|simp[Act.eval,Act.put]) (by first|rfl|simp[Act.eval,Act.put]) (by omega) ?_)
  all_goals
   go_wp2_with fail
   all_goals
    go_ret;refine⟨rfl,qf hb (by omega) (by have:=HM.out;omega) (by rw[List.length_eraseIdx,aj (by rw[H.out];omega),H.out];omega) (by obtain⟨cu,k1,k2⟩:=HB.out.set g i (.pointer none);exact⟨cu,k1,by omega⟩) (λj x y=>?_),?_⟩
    .have Z:j<i:=by
      have:=(bu.1 y).1;rw[List.length_eraseIdx,aj (by rw[H.out];omega),H.out]at this;omega
     rw[List.getElem?_eraseIdx_of_lt Z]at y;have:=HX.out j x y;have h2:(World.setCell w ⟨g,i,none⟩ (.pointer none)).cell? ⟨g,j,none⟩=some x:=by
      rw[dF _ _ _ _ (by intro e;injection e with _ e;omega)];exact this
     exact h2
    repeat (first|exact ax _ _|refine bq ?_|refine bp ?_ (ag rfl) _)
 obtain⟨m,a7⟩:∃m,n=i+1+m:=⟨n-(i+1),by omega⟩;have aD:1<=m:=by omega
 subst a7;have aB:¬c=i+1:=by omega
 have r1:(xs.drop (i+1)).length=m*1:=by rw[List.length_drop,H.out,Nat.mul_one];omega
 have r2:∀j u,(xs.drop (i+1))[j]? = some u->w.drew.cell? ((⟨g,i+1,none⟩:Addr).add j)=some u:=λj u hu=>by
  rw[List.getElem?_drop]at hu;have:=HX.out (i+1+j) u hu
  cases j with
  | zero=>simpa[Addr.add] using this
  | succ j=>simpa[Addr.add] using this
 have r3:∀u,u∈xs.drop (i+1)->u.oneCell'=true:=λu hu=>H1.out u (List.mem_of_mem_drop hu);have r5:∀j,j<(xs.drop (i+1)).length->(w.drew.cell? ⟨g,0+i*1+j,none⟩).isSome=true/\w.drew.frozen? ⟨g,0+i*1+j,none⟩=false:=λj Z=>by
  rw[r1]at Z;obtain⟨⟨v,h⟩,hf⟩:=HB.out.cell (0+i*1+j) (by omega);have h':w.drew.cell? ⟨g,0+i*1+j,none⟩=some v:=h;exact⟨by rw[h'];rfl,hf⟩
 have HR:=az (ay r1 (ay r2 (ay r3 r5)));have e1:i+1+m-(i+1)=m:=by omega
 have e2:i+1+m-(i+m)=1:=by omega
 have e3:i+m<=c:=by omega
 have e6:(i:Int)+1<=(i:Int)+1+(m:Int):=by omega
 have BS:jB (w.drew.setCells g i (xs.drop (i+1))) g 155 c:=jB.Ex g _ _ _ (show jB w.drew g 155 c from HB.out);have cl:=λty G=>by
  have:=Y.out ty _ G BS;rw[show i+1+m-1=i+m by omega]at this;exact this
 have a5:=az BS;clear r1 r2 r3 r5 o BS;go_in;go_wp2_with fail
 go_region_law (refine step_append_room rfl (.tmp 22) (.tmp 25) 136 rfl 155 i0 1 underlying136 hi a4 g 0 i c (by first|rfl|simp[Act.eval,Act.put]) ⟨g,i+1,none⟩ m (c-(i+1)) (xs.drop (i+1)) (by first|rfl|simp[Act.eval,Act.put]) HR.out.1 HR.out.2.1 HR.out.2.2.1 (by omega) HR.out.2.2.2 ?_)
 all_goals
  go_wp2_with fail
  go_ret;rw[show i+1+m-1=i+m by omega];have a1:∀j,j<(xs.drop (i+1)).length->(w.drew.cell? ⟨g,i+j,none⟩).isSome=true:=λj Z=>by
   have:=(HR.out.2.2.2 j Z).1;simpa using this
  refine⟨rfl,qf hb (by omega) HM.out (by rw[List.length_eraseIdx,aj (by rw[H.out];omega),H.out];omega) (by obtain⟨cu,k1,k2⟩:=a5.out.set g (i+m) (.pointer none);exact⟨cu,k1,k2⟩) (λj x y=>?_),?_⟩
  .have Z:j<i+m:=by
    have:=(bu.1 y).1;rw[List.length_eraseIdx,aj (by rw[H.out];omega),H.out]at this;omega
   have h2:((w.drew.setCells g i (xs.drop (i+1))).setCell ⟨g,i+m,none⟩ (.pointer none)).cell? ⟨g,j,none⟩=some x:=by
    rw[dF _ _ _ _ (by intro e;injection e with _ e;omega)];by_cases a3:j<i
    .rw[World.cell?_setCells_out g _ _ _ _ (λ_ _=>ag a3)];rw[List.getElem?_eraseIdx_of_lt a3]at y;exact HX.out j x y
    obtain⟨t,rfl⟩:∃t,j=i+t:=⟨j-i,by omega⟩;rw[List.getElem?_eraseIdx_of_ge (by omega)]at y;have hd:(xs.drop (i+1))[t]? = some x:=by rw[List.getElem?_drop,<-y];congr 1;omega
    have ht:=(bu.1 hd).1;rw[World.cell?_setCells_in g _ _ _ a1 t ht];obtain⟨_,hv⟩:=bu.1 hd;rw[hv]
   exact h2
  repeat (first|exact ax _ _|refine bq ?_|refine bp ?_ (ag rfl) _|refine tj g ?_ _ _)
theorem kZ{P:Program}{w:World}{ops:Array Oper}{rest:List Oper}{o:Oper}{a:Act}{Q:Exit->Act->World->Prop}(aA:o.guard=none)(s x:Operand)(t:TypeId)(ho:o.op=.call { callee:=.builtin .append,args:=#[s,x],argTypes:=#[t,t] })(e:TypeId)(i:TypeInfo)(z:Value)(size bytes:Nat)(ht:P.underlying t=some (.slice e))(hi:P.info? e=some i)(hz:i.zero=some z)(J:i.size=size)(a2:i.bytes=bytes)(a3:z.cells.size=size)(a5:0<size)(a1:Nat)(ao:Option Addr)(n cap:Nat)(xs:List Value)(hs:a.eval s=.slice ao n cap)(a0:w.ownsRow a1 e size (.slice ao n cap) n xs)(ad:Addr)(m c:Nat)(y:List Value)(hx:a.eval x=.slice (some ad) m c)(hl:y.length=m*size)(Y:∀j u,y[j]? = some u->w.cell? (ad.add j)=some u)(h1:∀u∈y,u.oneCell'=true)(a4:n+m<=maxLen)(G:(n+m)*bytes<=140737488355328)(Z:cap<n+m)(h:∀W w',w'.ownsRow w.heap.size e size W (n+m) (xs++y)->w.grownBy w' none->wpList P ops Q rest (a.put o.dst W) w'):wpList P ops Q (o :: rest) a w:=by
 refine wpList_plain aA λ_ hK=>?_;have a9:∃W w',(Builtin.append_ #[t,t] o.type #[.slice ao n cap,.slice (some ad) m c]).run P w=.ok W w'/\w'.ownsRow w.heap.size e size W (n+m) (xs++y)/\w.grownBy w' none:=by
  rcases a0 with⟨a7,⟨hv,h0⟩|⟨g,c',aB,hv,_,h2,h3,h4,h5,h6⟩⟩
  .injection hv with e1 e2 e3;subst e1 e2 e3;obtain rfl:xs=[]:=List.eq_nil_of_length_eq_zero (by simpa using a7);obtain⟨W,w',H,r1,r2,_⟩:=run_append_own (P:=P) w w.heap.size t o.type e i z size bytes ht hi hz J a2 a3 a5 (.slice none 0 0) 0 [] (dJ w _ e size) ad m c y hl Y h1 a4 G (bj _);exact⟨W,w',H,r1,r2⟩
  injection hv with e1 e2 e3;subst e1 e3;have a8:∀j u,xs[j]? = some u->w.cell? ((⟨g,0,none⟩:Addr).add j)=some u:=λj u hu=>by
   have hj:j<n*size:=by
    have:=(bu.1 hu).1;omega
   rw[<-h6,dh,aj hj]at hu;have a6:w.cell? ⟨g,j,none⟩=some u:=by
    simp only[World.cell?,h2];simpa using hu
   cases j with
   | zero=>simpa[Addr.add] using a6
   | succ j=>simpa[Addr.add] using a6
  obtain⟨W,w',H,r1,r2⟩:=run_append_arg_grows (P:=P) w t o.type e i z size bytes ht hi hz J a2 a3 a5 ⟨g,0,none⟩ n cap xs a7 a8 ad m c y hl Y Z a4 G;exact⟨W,w',H,r1,r2⟩
 obtain⟨W,w',hr,h2,h3⟩:=a9;unfold Oper.wp execOp;simp only[ho,resolve,invoke,builtin,Sem.run_bind,Sem.run_pure,Result.andThen_ok,List.map_toArray,List.map_cons,List.map_nil,hs,hx,hr];exact hK _ _ (h W w' h2 h3)
theorem gw{w:World}{b y size n:Nat}{e:TypeId}{v:Value}{xs:List Value}(h:w.ownsRow b e size v n xs)(G:y<=b):w.ownsRow y e size v n xs:=by
 rcases h with⟨u,o|⟨g,c,i,o,J,H⟩⟩
 .exact⟨u,ag o⟩
 exact⟨u,ab ⟨g,c,i,o,dH G J,H⟩⟩
def Mz(w w':World)(v:Value)(n base:Nat)(xs:List Value)(y:Value)(e:Ending):Prop:=
 ∃g' c',e=.returned (.slice (some ⟨g',0,none⟩) (n+1) c')/\w'.ownsRow base 155 1 (.slice (some ⟨g',0,none⟩) (n+1) c') (n+1) (xs++[y])/\w.grownBy w' v.ownBlock/\(v.ownBlock=some g'\/w.heap.size<=g')
theorem Co(n i x:Nat)(y:Value)(xs:List Value)(hy:y.oneCell'=true)(w:World)(ad:Option Addr)(c:Nat)(o:w.ownsRow i 155 1 (.slice ad n c) n xs)(hx:w.cell? ⟨x,0,none⟩=some y)(hb:i<=w.heap.size)(aB:n<=1000000000): Calls prog 203 #[.slice ad n c,.int .i64 n,.slice (some ⟨x,0,none⟩) 1 1] w λe w'=>Mz w w' (.slice ad n c) n i xs y e:=by
 obtain⟨i0,hi,a7,a4,a0⟩:=info_parts Tryz.rA;have HO:=az o;have aC:n<=c:=by
  rcases o.2 with⟨h,h0⟩|⟨g',c',Z,J,_,_,h4,_⟩
  .injection h;omega
  injection J;omega
 have aD:(c:Int)<=9223372036854775807:=by
  rcases o.2 with⟨h,h0⟩|⟨g',c',Z,J,_,_,h4,h5,_⟩
  .injection h;omega
  injection J;unfold maxLen at h5;omega
 have G:n<c->∃g,ad=some ⟨g,0,none⟩:=λa8=>by
  rcases o.2 with⟨h,h0⟩|⟨g',c',Z,J,_⟩
  .injection h;omega
  injection J with J;exact⟨g',J⟩
 by_cases a8:n<c
 .obtain⟨g,rfl⟩:=G a8;go_in;go_wp2_with (at_builtin;refine pU rfl (.tmp 23) (.tmp 24) 136 rfl i 155 i0 _ 1 8 underlying136 hi a7 a4 a0 rfl (by decide) _ _ _ _ rfl HO ⟨x,0,none⟩ 1 1 [y] rfl rfl ?c1 ?c2 ?c3 ?c4 ?c5 ?c6 ?_)
  try case c1=>intro j u H;match j,H with|0,H=>(simp at H;subst H;simpa[Addr.add] using hx)
  try case c2=>intro u Y;simp at Y;subst Y;exact hy
  try case c3=>unfold maxLen;omega
  try case c4=>omega
  try case c5=>exact hb
  try case c6=>omega
  intro w' W hg;go_wp2_with fail
  go_ret;exact⟨g,c,rfl,W,hg,ag rfl⟩
 have a6:(ad=none/\n=0/\c=0)\/∃g,ad=some ⟨g,0,none⟩/\n=c:=by
  rcases HO.2 with⟨h,h0⟩|⟨g',c',Z,J,_,_,h4,_⟩
  .injection h with a1 a2 a3;exact ag ⟨a1,a2,a3⟩
  injection J with a1 a2 a3;exact ab ⟨g',a1,by omega⟩
 rcases a6 with⟨rfl,rfl,rfl⟩|⟨g,rfl,rfl⟩
 .go_in;go_wp2_with (at_builtin;refine kZ rfl (.tmp 23) (.tmp 24) 136 rfl 155 i0 _ 1 8 underlying136 hi a7 a4 a0 rfl (by decide) i _ _ _ _ rfl HO ⟨x,0,none⟩ 1 1 [y] rfl rfl ?c1 ?c2 ?c3 ?c4 ?c5 ?_)
  try case c1=>intro j u H;match j,H with|0,H=>(simp at H;subst H;simpa[Addr.add] using hx)
  try case c2=>intro u Y;simp at Y;subst Y;exact hy
  try case c3=>unfold maxLen;omega
  try case c4=>omega
  try case c5=>omega
  intro v' w' W hg;obtain⟨g',c',rfl⟩:=dM W (by omega);have a5:=(iG W).1;go_wp2_with fail
  go_ret;exact⟨g',c',rfl,gw W hb,hg,ab a5⟩
 go_in
 go_wp2_with (at_builtin;refine kZ rfl (.tmp 23) (.tmp 24) 136 rfl 155 i0 (.pointer none) 1 8 underlying136 hi a7 a4 a0 rfl (by decide) i (some ⟨g,0,none⟩) n n xs rfl HO ⟨x,0,none⟩ 1 1 [y] rfl rfl ?c1 ?c2 (by unfold maxLen;omega) ?c4 (by omega) ?_)
 try case c1=>intro j u H;match j,H with|0,H=>(simp at H;subst H;simpa[Addr.add] using hx)
 try case c2=>intro u Y;simp at Y;subst Y;exact hy
 try case c4=>omega
 intro v' w' W hg;obtain⟨g',c',rfl⟩:=dM W (by omega);have a5:=(iG W).1;go_wp2_with fail
 go_ret;exact⟨g',c',rfl,gw W hb,mQ hg g,ab a5⟩
theorem Tryz.yP:(prog.info? 48).map (λi=>(i.zero,i.size,i.bytes))=some (some (.agg #[.int .i64 0,.int .i64 0,.int .i64 0]),3,24):=by kernel_rfl
abbrev se:=Nat×Nat×Int
def kE(ev:List se):List Value:=ev.flatMap (λx=>[.int .i64 (x.1:Int),.int .i64 (x.2.1:Int),.int .i64 x.2.2])
theorem Fm(a b:List se):kE (a++b)=kE a++kE b:=by simp[kE]
def jE(sz:Nat)(v v':Value):Prop:=v'.ownBlock=v.ownBlock\/∃g,v'.ownBlock=some g/\sz<=g
theorem tV{P:Program}(w:World)(t ty e:TypeId)(i:TypeInfo)(z:Value)(size bytes:Nat)(ht:P.underlying t=some (.slice e))(hi:P.info? e=some i)(hz:i.zero=some z)(y:i.size=size)(a4:i.bytes=bytes)(a2:z.cells.size=size)(a5:0<size)(ao:Option Addr)(n cap:Nat)(xs:List Value)(a1:w.ownsRow 0 e size (.slice ao n cap) n xs)(ad:Addr)(m c:Nat)(o:List Value)(hl:o.length=m*size)(H:∀j u,o[j]? = some u->w.cell? (ad.add j)=some u)(h1:∀u∈o,u.oneCell'=true)(a3:n+m<=maxLen)(G:(n+m)*bytes<=140737488355328)(hm:0<m): ∃J w',(Builtin.append_ #[t,t] ty #[.slice ao n cap,.slice (some ad) m c]).run P w=.ok J w'/\w'.ownsRow 0 e size J (n+m) (xs++o)/\w.grownBy w' (Value.slice ao n cap).ownBlock/\jE w.heap.size (.slice ao n cap) J:=by
 have a0:∀(J:Value) (w':World),w'.ownsRow w.heap.size e size J (n+m) (xs++o)->∃g,J.ownBlock=some g/\w.heap.size<=g:=λJ w' h=>by
  obtain⟨g,c',rfl⟩:=dM h (by omega);exact⟨g,rfl,(dA h g rfl).1⟩
 rcases id a1 with⟨a7,⟨hv,h0⟩|⟨g,c',a8,hv,_,h2,h3,h4,h5,h6⟩⟩
 .injection hv with e1 e2 e3;subst e1 e2 e3;obtain rfl:xs=[]:=List.eq_nil_of_length_eq_zero (by simpa using a7);obtain⟨J,w',W,r1,r2,_⟩:=run_append_own (P:=P) w w.heap.size t ty e i z size bytes ht hi hz y a4 a2 a5 (.slice none 0 0) 0 [] (dJ w _ e size) ad m c o hl H h1 a3 G (bj _);exact⟨J,w',W,gw r1 (dc _),r2,ab (a0 J w' r1)⟩
 injection hv with e1 e2 e3;subst e1 e3;by_cases Y:n+m<=cap
 .obtain⟨J,w',hr,r1,r2,_⟩:=run_append_own (P:=P) w 0 t ty e i z size bytes ht hi hz y a4 a2 a5 _ n xs a1 ad m c o hl H h1 a3 G (dc _);refine⟨J,w',hr,r1,r2,ag ?_⟩;subst y;have Z:=run_append_room (P:=P) w t ty e i ht hi g n cap a8 h2 ad m c o hl H h1 Y (by rw[hl,h5,<-Nat.add_mul];exact Nat.mul_le_mul_right _ Y);rw[hr]at Z;injection Z with Z _;rw[Z];rfl
 have a9:∀j u,xs[j]? = some u->w.cell? ((⟨g,0,none⟩:Addr).add j)=some u:=λj u hu=>by
  have hj:j<n*size:=by
   have:=(bu.1 hu).1;omega
  rw[<-h6,dh,aj hj]at hu;have a6:w.cell? ⟨g,j,none⟩=some u:=by
   simp only[World.cell?,h2];simpa using hu
  cases j with
  | zero=>simpa[Addr.add] using a6
  | succ j=>simpa[Addr.add] using a6
 obtain⟨J,w',W,r1,r2⟩:=run_append_arg_grows (P:=P) w t ty e i z size bytes ht hi hz y a4 a2 a5 ⟨g,0,none⟩ n cap xs a7 a9 ad m c o hl H (by omega) a3 G;exact⟨J,w',W,gw r1 (dc _),mQ r2 g,ab (a0 J w' r1)⟩
theorem oW{P:Program}(w:World){o:Oper}{a:Act}{K:Act->World->Prop}{Q:Exit->Act->World->Prop}(s x:Operand)(t:TypeId)(ho:o.op=.call { callee:=.builtin .append,args:=#[s,x],argTypes:=#[t,t] })(e:TypeId)(i:TypeInfo)(z:Value)(size bytes:Nat)(ht:P.underlying t=some (.slice e))(hi:P.info? e=some i)(hz:i.zero=some z)(H:i.size=size)(a0:i.bytes=bytes)(a1:z.cells.size=size)(a3:0<size)(Y:Option Addr)(n cap:Nat)(xs:List Value)(hs:a.eval s=.slice Y n cap)(W:w.ownsRow 0 e size (.slice Y n cap) n xs)(ad:Addr)(m c:Nat)(y:List Value)(hx:a.eval x=.slice (some ad) m c)(hl:y.length=m*size)(J:∀j u,y[j]? = some u->w.cell? (ad.add j)=some u)(h1:∀u∈y,u.oneCell'=true)(a2:n+m<=maxLen)(G:(n+m)*bytes<=140737488355328)(hm:0<m)(h:∀Z w',w'.ownsRow 0 e size Z (n+m) (xs++y)->w.grownBy w' (Value.slice Y n cap).ownBlock->jE w.heap.size (.slice Y n cap) Z->K (a.put o.dst Z) w'):Oper.wp P o a w K Q:=by
 obtain⟨Z,w',hr,h2,h3,h4⟩:=tV (P:=P) w t o.type e i z size bytes ht hi hz H a0 a1 a3 Y n cap xs W ad m c y hl J h1 a2 G hm;unfold Oper.wp execOp;simp only[ho,resolve,invoke,builtin,Sem.run_bind,Sem.run_pure,Result.andThen_ok,List.map_toArray,List.map_cons,List.map_nil,hs,hx,hr];exact h Z w' h2 h3 h4
theorem eS{P:Program}(w:World){ops:Array Oper}{o:Oper}{a:Act}{K:Act->World->Prop}{Q:Exit->Act->World->Prop}{E:Prop}(a0:o.guard=none)(s x:Operand)(t:TypeId)(ho:o.op=.call { callee:=.builtin .append,args:=#[s,x],argTypes:=#[t,t] })(e:TypeId)(i:TypeInfo)(z:Value)(size bytes:Nat)(ht:P.underlying t=some (.slice e))(hi:P.info? e=some i)(hz:i.zero=some z)(H:i.size=size)(Z:i.bytes=bytes)(a1:z.cells.size=size)(a3:0<size)(Y:Option Addr)(n cap:Nat)(xs:List Value)(hs:a.eval s=.slice Y n cap)(W:w.ownsRow 0 e size (.slice Y n cap) n xs)(ad:Addr)(m c:Nat)(y:List Value)(hx:a.eval x=.slice (some ad) m c)(hl:y.length=m*size)(J:∀j u,y[j]? = some u->w.cell? (ad.add j)=some u)(h1:∀u∈y,u.oneCell'=true)(a2:n+m<=maxLen)(G:(n+m)*bytes<=140737488355328)(hm:0<m)(h:∀v' w',w'.ownsRow 0 e size v' (n+m) (xs++y)->w.grownBy w' (Value.slice Y n cap).ownBlock->jE w.heap.size (.slice Y n cap) v'->K (a.put o.dst v') w'): if Region.wanted o (yielded ops a.tmps)=true then Oper.wp P o a w K Q else E:=by
 rw[aj (by simp[Region.wanted,a0])];exact oW w s x t ho e i z size bytes ht hi hz H Z a1 a3 Y n cap xs hs W ad m c y hx hl J h1 a2 G hm h
theorem gK{P:Program}{w:World}{ops:Array Oper}{rest:List Oper}{o:Oper}{a:Act}{Q:Exit->Act->World->Prop}(a1:o.guard=none)(s x:Operand)(t:TypeId)(ho:o.op=.call { callee:=.builtin .append,args:=#[s,x],argTypes:=#[t,t] })(e:TypeId)(i:TypeInfo)(z:Value)(size bytes:Nat)(ht:P.underlying t=some (.slice e))(hi:P.info? e=some i)(hz:i.zero=some z)(H:i.size=size)(a0:i.bytes=bytes)(a2:z.cells.size=size)(a4:0<size)(Y:Option Addr)(n cap:Nat)(xs:List Value)(hs:a.eval s=.slice Y n cap)(W:w.ownsRow 0 e size (.slice Y n cap) n xs)(ad:Addr)(m c:Nat)(y:List Value)(hx:a.eval x=.slice (some ad) m c)(hl:y.length=m*size)(J:∀j u,y[j]? = some u->w.cell? (ad.add j)=some u)(h1:∀u∈y,u.oneCell'=true)(a3:n+m<=maxLen)(G:(n+m)*bytes<=140737488355328)(hm:0<m)(h:∀Z w',w'.ownsRow 0 e size Z (n+m) (xs++y)->w.grownBy w' (Value.slice Y n cap).ownBlock->jE w.heap.size (.slice Y n cap) Z->wpList P ops Q rest (a.put o.dst Z) w'):wpList P ops Q (o :: rest) a w:=
 wpList_plain a1 λ_ hK=>oW w s x t ho e i z size bytes ht hi hz H a0 a2 a4 Y n cap xs hs W ad m c y hx hl J h1 a3 G hm λZ w' h2 h3 h4=>hK _ _ (h Z w' h2 h3 h4)
theorem IU(eb tb kind t:Nat)(x:Int)(ad:Option Addr)(n cap:Nat)(ev:List se)(E Tk:Nat->Value)(w:World)(Y:Full w eb 144 44 44 E)(G:E 43=.slice ad n cap)(hT:Full w tb 160 7 7 Tk)(W:Tk 0=.int .i64 t)(i:w.ownsRow 0 48 3 (.slice ad n cap) n (kE ev))(hn:n<=100000): Calls prog 173 #[P0 eb,.int .i64 kind,P0 tb,.int .i64 x] w λe w'=>e=.returned (.tuple #[])/\∃g c,w'.ownsRow 0 48 3 (.slice (some ⟨g,0,none⟩) (n+1) c) (n+1) (kE (ev++[(kind,t,x)]))/\Full w' eb 144 44 44 (ep E 43 (.slice (some ⟨g,0,none⟩) (n+1) c))/\dy (λk=>k=eb\/(Value.slice ad n cap).ownBlock=some k) w w'/\((Value.slice ad n cap).ownBlock=some g\/w.heap.size<=g):=by
 obtain⟨i0,hi,a5,a2,a1⟩:=info_parts Tryz.yP;obtain⟨a6,aB⟩:=Y.cells 43 (by omega);have c0:=hT.cell 0 (by omega);rw[G]at a6;rw[W]at c0;have le:=Y.lt;have HE:Hid (Full w eb 144 44 44 E):=Y;have HO:Hid (w.ownsRow 0 48 3 (.slice ad n cap) n (kE ev)):=i;have J:∀k,(Value.slice ad n cap).ownBlock=some k->k≠eb/\k<w.heap.size:=λk J=>⟨eL i Y (by decide) k J,(dA i k J).2.1⟩;have HK:=az J;clear Y hT i G W J;have hX:kE (ev++[(kind,t,x)])=kE ev++[.int .i64 kind,.int .i64 t,.int .i64 x]:=by rw[Fm];rfl
 rw[hX];clear hX;generalize kE ev=L at *;go_in;go_wp2_with fail
 go_region_law (refine eS _ rfl (.tmp 12) (.tmp 20) 45 rfl 48 i0 _ 3 24 underlying45 hi a5 a2 a1 rfl (by decide) ad n cap L (by first|rfl|simp[Act.eval,Act.put]) (dD HO (λk h=>ak _ _ _ (HK k h).2)) ⟨w.heap.size,0,none⟩ 1 1 [.int .i64 kind,.int .i64 t,.int .i64 x] (by first|rfl|simp[Act.eval,Act.put]) rfl (by intro j u o;match j,o with|0,o=>(simp at o;subst o;simp[Addr.add,go_sem])|1,o=>(simp at o;subst o;simp[Addr.add,go_sem])|2,o=>(simp at o;subst o;simp[Addr.add,go_sem])) (by simp[Value.oneCell']) (by unfold maxLen;omega) (by omega) (by decide) ?_;intro v' w6 ho H a0;obtain⟨g,c,rfl⟩:=dM ho (by omega);have a4:Hid ((Value.slice ad n cap).ownBlock=some g\/w.heap.size<=g):=(by rcases a0 with h|⟨g',h,hl⟩;exact ag h.symm;exact ab (by have e:g=g':=(by injection h);simp at hl;omega));clear a0;have Z:=az ho;have y:Hid (Full w6 eb 144 44 44 E):=(HE.block (ak _ _ _ le)).block (H.block eb (by simp;omega) (λh=>(HK eb h.symm).1 rfl));have a7:Hid (dy (λk=>k=eb\/(Value.slice ad n cap).ownBlock=some k) w w6):=dy.trans (S1:=λk=>(Value.slice ad n cap).ownBlock=some k) (gF (dk _ w) _) ⟨H.os,H.tape,H.output,H.size,λk J hn=>H.block k J (λe=>hn e.symm)⟩ (λk h _=>ab h);obtain⟨a3,a9⟩:=y.cells 43 (by omega);clear ho H)
 all_goals
  go_wp2_with fail
  go_end0;refine⟨rfl,g,c,dD Z (λk h=>?_),y.ep 43 _,bm a7 (ag (ag rfl)) _,a4⟩;exact af _ _ _ _ (eL Z y (by decide) k h)
end
end Go.Proofs.YtnjiinbhbjpfkaaGreatDoor
